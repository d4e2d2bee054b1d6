/-
  run: the calls whose kinds lie within bounds.
-/
import Derived.Test.YtcjblafohfiiaabGreatBe
import Derived.Test.YtcjblafohfiiaabGreatSa
set_option linter.unusedVariables false
namespace Go.Proofs.YtcjblafohfiiaabGreat
open Go.RowKit Go.Shelf

/-- One call, as data. -/
structure OpD where
  k : Int
  sec : Bool
  n : Int
  wd : Int
  s : ByteArray
  stop : Int

/-- A slice of calls that came in. -/
def LOps (w : World) (a : Option Addr) (ops : List OpD) : Prop := ∀ (i : Nat) (o : OpD), ops[i]? = some o → ∃ g off, a = some ⟨g, off, none⟩ ∧ g < w.heap.size ∧
  w.cell? ⟨g, off + i * 6, none⟩ = some (.int .i64 o.k) ∧ w.cell? ⟨g, off + i * 6 + 1, none⟩ = some (.bool o.sec) ∧ w.cell? ⟨g, off + i * 6 + 2, none⟩ = some (.int .i64 o.n) ∧
  w.cell? ⟨g, off + i * 6 + 3, none⟩ = some (.int .u64 o.wd) ∧ w.cell? ⟨g, off + i * 6 + 4, none⟩ = some (.string o.s) ∧ w.cell? ⟨g, off + i * 6 + 5, none⟩ = some (.int .i64 o.stop)

set_option maxHeartbeats 4000000 in
theorem run_core (one two low high : Int) (a : Option Addr) (cap : Nat) (ops : List OpD) (w : World) (Inv : Nat → World → Prop) (hl : LOps w a ops) (hcap : ops.length ≤ 9223372036854775807)
    (h0 : ∀ W D M L, Beg w one two 2 D M L → Bg w W D M L → Inv 0 W)
    (hstep : ∀ (k : Nat) (o : OpD) (W : World), k < 400 → Inv k W → low ≤ o.k → o.k ≤ high → Calls Tryz.prog 9 #[.pointer (some ⟨w.heap.size, 0, none⟩), .agg (opv o.k o.sec o.n o.wd o.s o.stop)] W fun e W' => e = .returned (.bool true) ∧ Inv (k + 1) W')
    (hmono : ∀ k W, Inv k W → Inv (k + 1) W) (hbel : ∀ k W, Inv k W → Below w.heap.size w W) :
    Calls Tryz.prog 7 #[.int .i64 one, .int .i64 two, .slice a ops.length cap, .int .i64 low, .int .i64 high] w fun e w' => e = .returned (.bool true) ∧ Below w.heap.size w w' := by
  have Hst : Hid (∀ (k : Nat) (o : OpD) (W : World), k < 400 → Inv k W → low ≤ o.k → o.k ≤ high → Calls Tryz.prog 9 #[.pointer (some ⟨w.heap.size, 0, none⟩), .agg (opv o.k o.sec o.n o.wd o.s o.stop)] W fun e W' => e = .returned (.bool true) ∧ Inv (k + 1) W') := hstep
  have Hmo : Hid (∀ k W, Inv k W → Inv (k + 1) W) := hmono
  have Hbe : Hid (∀ k W, Inv k W → Below w.heap.size w W) := hbel
  have H0 : Hid (∀ W D M L, Beg w one two 2 D M L → Bg w W D M L → Inv 0 W) := h0
  have Hl : Hid (LOps w a ops) := hl
  clear hstep hmono hbel h0 hl
  have hbg := begin_any one two w
  go_enter Tryz.func7, Tryz.ntmps7
  go_wp2_with fail
  refine hbg.mono ?_
  rintro e W1 ⟨rfl, D, M, L, hb1, hb2⟩
  have hi0 := H0.out W1 D M L hb1 hb2
  clear hbg hb1 hb2 H0
  go_wp2
  go_loopw [13] (fun i wr => ∃ (k : Nat), k ≤ ops.length ∧ k ≤ 400 ∧ i = .int .i64 k ∧ Inv k wr) (fun i _ => ops.length - (intOf i).toNat)
  case atStart => exact ⟨0, Nat.zero_le _, by omega, rfl, hi0⟩
  case round =>
    obtain ⟨k, hk, hk4, rfl, hi⟩ := hrel
    by_cases hlt : k < ops.length
    · by_cases h4 : k < 400
      · obtain ⟨o, ho⟩ : ∃ o, ops[k]? = some o := ⟨_, List.getElem?_eq_getElem hlt⟩
        obtain ⟨g, off, rfl, hg, c0, c1, c2, c3, c4, c5⟩ := Hl.out k o ho
        have hki : (k : Int) < (ops.length : Int) := by omega
        have hk4i : (k : Int) < 400 := by omega
        have hB := Hbe.out k wr hi
        have d0 := (hB.cell (p := ⟨g, off + k * 6, none⟩) hg).trans c0
        have d1 := (hB.cell (p := ⟨g, off + k * 6 + 1, none⟩) hg).trans c1
        have d2 := (hB.cell (p := ⟨g, off + k * 6 + 2, none⟩) hg).trans c2
        have d3 := (hB.cell (p := ⟨g, off + k * 6 + 3, none⟩) hg).trans c3
        have d4 := (hB.cell (p := ⟨g, off + k * 6 + 4, none⟩) hg).trans c4
        have d5 := (hB.cell (p := ⟨g, off + k * 6 + 5, none⟩) hg).trans c5
        clear c0 c1 c2 c3 c4 c5 ho hB
        by_cases hlo : low ≤ o.k
        · by_cases hhi : o.k ≤ high
          · have hpl := Hst.out k o wr h4 hi hlo hhi
            go_wp2_with fail
            refine hpl.mono ?_
            rintro e w2 ⟨rfl, hi2⟩
            clear hpl d0 d1 d2 d3 d4 d5 hi
            go_wp2
            exact ⟨⟨k + 1, hlt, h4, by go_num, hi2⟩, by simp [intOf]; omega⟩
          · have hi' := Hmo.out k wr hi
            go_wp2
            exact ⟨⟨k + 1, hlt, h4, by go_num, hi'⟩, by simp [intOf]; omega⟩
        · have hi' := Hmo.out k wr hi
          go_wp2
          exact ⟨⟨k + 1, hlt, h4, by go_num, hi'⟩, by simp [intOf]; omega⟩
      · obtain rfl : k = 400 := by omega
        have hki : ((400 : Nat) : Int) < (ops.length : Int) := by omega
        have hB := Hbe.out _ wr hi
        go_wp2
        go_ret
        exact ⟨rfl, hB⟩
    · obtain rfl : k = ops.length := by omega
      have hB := Hbe.out _ wr hi
      go_wp2
      go_ret
      exact ⟨rfl, hB⟩

end Go.Proofs.YtcjblafohfiiaabGreat
