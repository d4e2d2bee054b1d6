/-
  filled.
-/
import Derived.Test.YtlnfhnahnmblmaaDoorM13
set_option linter.unusedVariables false
namespace Go.Proofs.YtlnfhnahnmblmaaDoor
open Go.RowKit Go.Shelf

/-- A list of numbers that came in. -/
def Lst (w : World) (a : Option Addr) (l : List Int) : Prop :=
  ∀ i u, l[i]? = some u → (-9223372036854775808 ≤ u ∧ u ≤ 9223372036854775807) ∧ ∃ b off, a = some ⟨b, off, none⟩ ∧ b < w.heap.size ∧ w.cell? ⟨b, off + i, none⟩ = some (.int .i64 u)

theorem Lst.below {w w' : World} {a : Option Addr} {l : List Int} (h : Lst w a l) (bel : Below w.heap.size w w') : Lst w' a l := fun i u hu => by
  obtain ⟨h0, b, off, h1, h2, h3⟩ := h i u hu
  exact ⟨h0, b, off, h1, Nat.lt_of_lt_of_le h2 bel.size, (bel.cell h2).trans h3⟩

def fil1 (n : Nat) (M : Nat → Bool) (x y : Int) : Nat → Bool := if 0 ≤ x ∧ 0 ≤ y ∧ y ≤ (n : Int) - x then add M x.toNat (x.toNat + y.toNat) else M

/-- Pieces marked one behind the other. -/
def fil (n : Nat) : List Int → (Nat → Bool) → (Nat → Bool)
  | x :: y :: r, M => fil n r (fil1 n M x y)
  | [_], M => M
  | [], M => M

theorem num_any (e : Int) (w : World) : Calls Tryd.prog 12 #[.int .i64 e] w fun r w' => r = .returned (.int .i64 e) ∧ w = w' := by
  go_enter Tryd.func12, Tryd.ntmps12
  go_wp2
  go_ret
  exact ⟨rfl, rfl⟩

theorem filled_out (n : Int) (h : n < 0 ∨ 8192 < n) (v : Value) (w : World) :
    Calls Tryd.prog 10 #[.int .i64 n, v] w fun r w' => r = .returned (.tuple #[.pointer none, .bool true]) ∧ w = w' := by
  by_cases h0 : n < 0
  · clear h
    go_enter Tryd.func10, Tryd.ntmps10
    go_wp2
    go_ret2
    exact ⟨rfl, rfl⟩
  · have h1 : 8192 < n := by omega
    clear h
    go_enter Tryd.func10, Tryd.ntmps10
    go_wp2
    go_ret2
    exact ⟨rfl, rfl⟩

set_option maxRecDepth 100000 in
set_option maxHeartbeats 8000000 in
theorem filled_in (n : Nat) (hn : n ≤ 8192) (a : Option Addr) (cap : Nat) (l : List Int) (hlen : l.length ≤ 9223372036854775807) (w : World) (hL : Laid w) (hl : Lst w a l) :
    Calls Tryd.prog 10 #[.int .i64 n, .slice a l.length cap] w fun r w' => (∃ b g, r = .returned (.tuple #[.pointer (some ⟨b, 0, none⟩), .bool true]) ∧ Mp w' b g n (fil n (l.take 600) (fun _ => false)) ∧ w.heap.size ≤ b ∧ w.heap.size ≤ g) ∧ Below w.heap.size w w' := by
  have hnew := new_in n (by omega) w
  have HL : Hid (Laid w) := hL
  have Hl : Hid (Lst w a l) := hl
  clear hL hl
  go_enter Tryd.func10, Tryd.ntmps10
  go_wp2_with fail
  refine hnew.mono ?_
  rintro r w1 ⟨b, g, rfl, hM, b1, hb, hg⟩
  have hnum := num_any 0 w1
  have hwo := words_any b g n _ w1 hM
  have HM : Hid (Mp w1 b g n (fun _ => false)) := hM
  clear hnew hM
  go_wp2_with fail
  refine hnum.mono ?_
  rintro r w2 ⟨rfl, rfl⟩
  clear hnum
  go_wp2_with fail
  refine hwo.mono ?_
  rintro r w2 ⟨rfl, rfl⟩
  clear hwo
  go_wp2
  go_loopw [8] (fun v wr => ∃ (i : Nat) (M : Nat → Bool), v = .int .i64 i ∧ i ≤ l.length + 1 ∧ i ≤ 600 ∧ i % 2 = 0 ∧ Hid (Mp wr b g n M ∧ fil n ((l.drop i).take (600 - i)) M = fil n (l.take 600) (fun _ => false)) ∧ Below w.heap.size w wr) (fun v _ => (l.length + 1 - intOf v).toNat)
  case atStart => exact ⟨0, _, rfl, Nat.zero_le _, by omega, rfl, ⟨HM.out, by simp⟩, b1⟩
  case round =>
    obtain ⟨i, M, rfl, hi, hi6, hev, hI, hB⟩ := hrel
    by_cases h1 : i + 1 < l.length
    · by_cases h2 : i < 600
      · obtain ⟨x, hx⟩ : ∃ x, l[i]? = some x := ⟨_, List.getElem?_eq_getElem (by omega)⟩
        obtain ⟨y, hy⟩ : ∃ y, l[i + 1]? = some y := ⟨_, List.getElem?_eq_getElem h1⟩
        obtain ⟨rx, b0, off, rfl, hb0, cx⟩ := Hl.out.below hB i x hx
        obtain ⟨ry, b0', off', he, hb0', cy⟩ := Hl.out.below hB (i + 1) y hy
        simp only [Option.some.injEq, Addr.mk.injEq] at he
        obtain ⟨rfl, rfl, -⟩ := he
        have hfin : fil n ((l.drop (i + 2)).take (600 - (i + 2))) (fil1 n M x y) = fil n (l.take 600) (fun _ => false) := by
          have := hI.out.2
          rw [show 600 - i = (600 - (i + 2)) + 1 + 1 by omega, List.drop_eq_getElem_cons (show i < l.length by omega), List.take_succ_cons, List.drop_eq_getElem_cons h1, List.take_succ_cons] at this
          rw [List.getElem?_eq_getElem (show i < l.length by omega), Option.some.injEq] at hx
          rw [List.getElem?_eq_getElem h1, Option.some.injEq] at hy
          rw [hx, hy] at this
          exact this
        have hMr := hI.out.1
        have hn2 := hMr.le
        have Hfin : Hid (fil n ((l.drop (i + 2)).take (600 - (i + 2))) (fil1 n M x y) = fil n (l.take 600) (fun _ => false)) := hfin
        have HB : Hid (Below w.heap.size w wr) := hB
        clear hfin hx hy hb0 hb0' hI hB
        by_cases hc : 0 ≤ x ∧ 0 ≤ y ∧ y ≤ (n : Int) - x
        · obtain ⟨c1, c2, c3⟩ := hc
          obtain ⟨xn, rfl⟩ := Int.eq_ofNat_of_zero_le c1
          obtain ⟨yn, rfl⟩ := Int.eq_ofNat_of_zero_le c2
          have hset := set_in b g n M xn yn (by omega) wr hMr
          have H1 : Hid (fil1 n M xn yn = add M xn (xn + yn)) := by
            show _ = _
            unfold fil1
            rw [if_pos ⟨c1, c2, c3⟩, Int.toNat_natCast, Int.toNat_natCast]
          have hxn : xn ≤ n := by omega
          clear hMr
          go_wp2_with fail
          refine hset.mono ?_
          rintro r w4 ⟨fs, -, rfl, hM4, t4⟩
          have b4 := HB.out.trans (t4.below HB.out.size (by simp; omega))
          have H4 : Hid (Mp w4 b g n (add M xn (xn + yn))) := hM4
          have hnum := num_any 0 w4
          clear hset cx cy t4 hM4
          go_wp2_with fail
          refine hnum.mono ?_
          rintro r w5 ⟨rfl, rfl⟩
          clear hnum
          go_wp2
          go_roundw
          case rel => exact ⟨i + 2, _, by simp, by omega, by omega, by omega, ⟨H4.out, by rw [← H1.out]; exact Hfin.out⟩, b4⟩
          case measure => simp [intOf]; omega
        · have hset := set_out b g n M x y rx.2 (by omega) wr hMr
          have H1 : Hid (fil1 n M x y = M) := by
            show _ = _
            unfold fil1
            rw [if_neg hc]
          have HMr : Hid (Mp wr b g n M) := hMr
          clear hMr
          go_wp2_with fail
          refine hset.mono ?_
          rintro r w4 ⟨rfl, b4'⟩
          have b4 := HB.out.trans (b4'.mono HB.out.size)
          have H4 : Hid (Mp w4 b g n M) := HMr.out.below b4'
          have hnum := num_any 41 w4
          clear hset cx cy b4' HMr
          by_cases d1 : x < 0
          · clear hc
            go_wp2_with fail
            refine hnum.mono ?_
            rintro r w5 ⟨rfl, rfl⟩
            clear hnum
            go_wp2
            go_roundw
            case rel => exact ⟨i + 2, _, by simp, by omega, by omega, by omega, ⟨H4.out, by have := Hfin.out; rw [H1.out] at this; exact this⟩, b4⟩
            case measure => simp [intOf]; omega
          · by_cases d2 : y < 0
            · clear hc
              go_wp2_with fail
              refine hnum.mono ?_
              rintro r w5 ⟨rfl, rfl⟩
              clear hnum
              go_wp2
              go_roundw
              case rel => exact ⟨i + 2, _, by simp, by omega, by omega, by omega, ⟨H4.out, by have := Hfin.out; rw [H1.out] at this; exact this⟩, b4⟩
              case measure => simp [intOf]; omega
            · by_cases d3 : (n : Int) < x
              · clear hc
                go_wp2_with fail
                refine hnum.mono ?_
                rintro r w5 ⟨rfl, rfl⟩
                clear hnum
                go_wp2
                go_roundw
                case rel => exact ⟨i + 2, _, by simp, by omega, by omega, by omega, ⟨H4.out, by have := Hfin.out; rw [H1.out] at this; exact this⟩, b4⟩
                case measure => simp [intOf]; omega
              · have d4 : (n : Int) - x < y := by omega
                clear hc
                go_wp2_with fail
                refine hnum.mono ?_
                rintro r w5 ⟨rfl, rfl⟩
                clear hnum
                go_wp2
                go_roundw
                case rel => exact ⟨i + 2, _, by simp, by omega, by omega, by omega, ⟨H4.out, by have := Hfin.out; rw [H1.out] at this; exact this⟩, b4⟩
                case measure => simp [intOf]; omega
      · have hi' : i = 600 := by omega
        subst hi'
        go_wp2
        go_ret2
        have := hI.out.2
        simp only [Nat.sub_self, List.take_zero, fil] at this
        exact ⟨⟨b, rfl, g, by rw [← this]; exact hI.out.1, hb, hg⟩, hB⟩
    · go_wp2
      go_ret2
      have h3 : fil n ((l.drop i).take (600 - i)) M = M := by
        have hle : ((l.drop i).take (600 - i)).length ≤ 1 := by simp; omega
        match hh : (l.drop i).take (600 - i), hle with
        | [], _ => rfl
        | [_], _ => rfl
        | _ :: _ :: _, h => exact absurd h (by simp)
      have := hI.out.2
      rw [h3] at this
      exact ⟨⟨b, rfl, g, by rw [← this]; exact hI.out.1, hb, hg⟩, hB⟩
end Go.Proofs.YtlnfhnahnmblmaaDoor
