/-
  BagTurns: the walk.
-/
import Derived.Test.YtcjblafohfiiaaaKn
import Derived.Test.YtcjblafohfiiaaaTa
set_option linter.unusedVariables false
namespace Go.Proofs.Ytcjblafohfiiaaa
open Go.RowKit

theorem Stk.base {W : World} {base base' b : Nat} {most : Int} {xs : List Int} {F : List Nat} (h : Stk W base b most xs F) (hle : base' ≤ base) : Stk W base' b most xs F := by
  obtain ⟨v, hh, hb, hr, rfl⟩ := h
  exact ⟨v, hh, by omega, row_base hr hle, rfl⟩

theorem Que.base {W : World} {base base' b N : Nat} {most : Int} {xs : List Int} {F : List Nat} (h : Que W base b most N xs F) (hle : base' ≤ base) : Que W base' b most N xs F := by
  obtain ⟨v, ts, f, hh, hb, hr, h1, h2, h3, rfl⟩ := h
  exact ⟨v, ts, f, hh, by omega, row_base hr hle, h1, h2, h3, rfl⟩

theorem few_short (a : Option Addr) (n cap : Nat) (w : World) (hn : n ≤ 500) :
    Calls Try.prog 8 #[.slice a n cap] w fun e w' => e = .returned (.slice a n cap) ∧ w = w' := by
  have h1 : ¬ (500 : Int) < n := by omega
  go_enter Try.func8, Try.ntmps8
  go_wp2
  go_ret
  exact ⟨rfl, rfl⟩

theorem few_long (a : Addr) (n cap : Nat) (w : World) (hn : 500 < n) (hc : n ≤ cap) (hm : cap ≤ maxLen) :
    Calls Try.prog 8 #[.slice (some a) n cap] w fun e w' => e = .returned (.slice (some a) 500 cap) ∧ w = w' := by
  unfold maxLen at hm
  have h1 : (500 : Int) < n := by omega
  go_enter Try.func8, Try.ntmps8
  go_wp2
  go_ret
  exact ⟨rfl, rfl⟩

/-- What the walk knows of the list that came in: its cells. -/
def Lists (w : World) (a : Option Addr) (l : List Int) : Prop := ∀ (i : Nat) x, l[i]? = some x → ∃ g off, a = some ⟨g, off, none⟩ ∧ g < w.heap.size ∧ w.cell? ⟨g, off + i, none⟩ = some (.int .i64 x)

set_option maxHeartbeats 2000000 in
theorem turns_core (a : Option Addr) (cap : Nat) (l : List Int) (w : World) (v0 : Value) (hfew : ∀ w, Calls Try.prog 8 #[v0] w fun e w' => e = .returned (.slice a l.length cap) ∧ w = w') (hl : Lists w a l) (hn : l.length ≤ 500) :
    Calls Try.prog 3 #[v0] w fun e w' => e = .returned (.bool true) ∧ Below w.heap.size w w' := by
  go_enter Try.func3, Try.ntmps3
  go_wp2_with fail
  refine (known_any w).mono ?_
  rintro e w1 ⟨rfl, hB1⟩
  go_wp2_with fail
  refine (hfew w1).mono ?_
  rintro e w' ⟨rfl, rfl⟩
  go_wp2_with fail
  refine (newintstack_any 0 (by decide) _).mono ?_
  rintro e w2 ⟨rfl, hs2, ht2, hz2⟩
  go_wp2_with fail
  refine (newintqueue_any l.length (by omega) _).mono ?_
  rintro e w3 ⟨rfl, hq3, ht3, hz3⟩
  have hs3 := (hs2.keep ht3 (by intro k _ h; simp at h)).base (base' := w.heap.size) hB1.size
  have hq3' := hq3.base (base' := w.heap.size) (by have := hB1.size; omega)
  have hB3 : Below w.heap.size w w3 := (hB1.trans (ht2.below hB1.size (by simp))).trans (ht3.below (by have := hB1.size; omega) (by simp))
  have hap : Apart [w1.heap.size] [w2.heap.size] := by intro k hk hk2; simp at hk hk2; omega
  clear hs2 ht2 hq3 ht3 hz2 hz3
  generalize w1.heap.size = bs at *
  generalize w2.heap.size = bq at *
  go_wp2
  go_loopw [8] (fun i wr => ∃ (k : Nat) (Fs Fq : List Nat), k ≤ l.length ∧ i = .int .i64 k ∧ Stk wr w.heap.size bs 0 (l.take k) Fs ∧ Que wr w.heap.size bq l.length k (l.take k) Fq ∧ Apart Fs Fq ∧ Below w.heap.size w wr)
    (fun i _ => l.length - (intOf i).toNat)
  case atStart => exact ⟨0, _, _, Nat.zero_le _, rfl, by simpa using hs3, by simpa using hq3', hap, hB3⟩
  case round =>
    obtain ⟨k, Fs, Fq, hk, rfl, hs, hq, hA, hB⟩ := hrel
    clear hs3 hq3' hap hB3
    by_cases hlt : k < l.length
    · obtain ⟨x, hx⟩ : ∃ x, l[k]? = some x := ⟨_, List.getElem?_eq_getElem hlt⟩
      obtain ⟨g, off, rfl, hg, hc⟩ := hl k x hx
      have hki : (k : Int) < (l.length : Int) := by omega
      have hcr : wr.cell? ⟨g, off + k, none⟩ = some (.int .i64 x) := (hB.cell (p := ⟨g, off + k, none⟩) hg).trans hc
      have Hx : Hid (l.take k ++ [x] = l.take (k + 1)) := by
        show _ = _
        rw [List.take_add_one, hx]; rfl
      have hlk : (l.take k).length = k := by simp; omega
      have hpu := push_any bs w.heap.size 0 x (l.take k) Fs wr hs hB.size (by omega) (by simp)
      rw [Hx.out] at hpu
      clear hx
      have Hlk : Hid ((l.take k).length = k) := hlk
      clear hlk
      go_wp2_with fail
      refine hpu.mono ?_
      rintro e w4 ⟨rfl, Fs', hs4, ht4, hn4⟩
      clear hpu
      have hq4 := hq.keep ht4 hA.symm
      have hA4 : Apart Fs' Fq := hA.newer hn4 (fun j hj => (hq.mem j hj).2)
      have hB4 : Below w.heap.size w w4 := hB.trans (ht4.below hB.size (fun j hj => (hs.mem j hj).1))
      have hcr4 : w4.cell? ⟨g, off + k, none⟩ = some (.int .i64 x) := (hB4.cell (p := ⟨g, off + k, none⟩) hg).trans hc
      have hpt := put_any bq w.heap.size k l.length x (l.take k) Fq w4 hq4 hB4.size (by omega) (by rw [Hlk.out]; omega)
      rw [Hx.out] at hpt
      clear hs hq hA hB ht4 hn4 hcr hc
      go_wp2_with fail
      refine hpt.mono ?_
      rintro e w5 ⟨rfl, Fq', hq5, ht5, hn5⟩
      clear hpt
      have hs5 := hs4.keep ht5 hA4
      have hA5 : Apart Fs' Fq' := (hA4.symm.newer hn5 (fun j hj => (hs4.mem j hj).2)).symm
      have hB5 : Below w.heap.size w w5 := hB4.trans (ht5.below hB4.size (fun j hj => (hq4.mem j hj).1))
      clear hs4 hq4 hA4 hB4 ht5 hn5 hcr4
      go_wp2_with (go_at_call 13; refine (num_any _ _).mono ?_; rintro e w' ⟨rfl, rfl⟩)
      go_roundw
      case rel => exact ⟨k + 1, Fs', Fq', hlt, by go_num, hs5, hq5, hA5, hB5⟩
      case measure => simp [intOf]; omega
    · obtain rfl : k = l.length := by omega
      rw [List.take_length] at hs hq
      go_wp2
      go_loopw [11] (fun i wr => ∃ (k : Nat), k ≤ l.length ∧ i = .int .i64 k ∧ Stk wr w.heap.size bs 0 (l.take (l.length - k)) Fs ∧ Que wr w.heap.size bq l.length l.length (l.drop k) Fq ∧ Below w.heap.size w wr)
        (fun i _ => l.length - (intOf i).toNat)
      case atStart => exact ⟨0, Nat.zero_le _, rfl, by simpa using hs, by simpa using hq, hB⟩
      case round =>
        clear hs hq hB
        obtain ⟨k, hk, rfl, hs, hq, hB⟩ := hrel
        by_cases hlt : k < l.length
        · obtain ⟨x, hx⟩ : ∃ x, l[l.length - 1 - k]? = some x := ⟨_, List.getElem?_eq_getElem (by omega)⟩
          obtain ⟨y, hy⟩ : ∃ y, l[k]? = some y := ⟨_, List.getElem?_eq_getElem hlt⟩
          obtain ⟨g, off, rfl, hg, hc⟩ := hl k y hy
          obtain ⟨g', off', ha', -, hcx⟩ := hl _ x hx
          simp only [Option.some.injEq, Addr.mk.injEq, and_true] at ha'
          obtain ⟨rfl, rfl⟩ := ha'
          have hki : (k : Int) < (l.length : Int) := by omega
          have ex : l.take (l.length - k) = l.take (l.length - (k + 1)) ++ [x] := by
            have : l.length - k = (l.length - 1 - k) + 1 := by omega
            rw [this, List.take_add_one, hx, show l.length - (k + 1) = l.length - 1 - k by omega]; rfl
          have ey : l.drop k = y :: l.drop (k + 1) := by
            rw [List.drop_eq_getElem_cons hlt]
            congr 1
            rw [List.getElem?_eq_getElem hlt] at hy
            exact Option.some.inj hy
          rw [ex] at hs
          rw [ey] at hq
          have hpo := pop_any bs w.heap.size 0 x _ Fs wr hs (by simp; omega)
          clear hx hy ex ey
          go_wp2_with fail
          refine hpo.mono ?_
          rintro e w4 ⟨rfl, hs4, ht4⟩
          have hq4 := hq.keep ht4 hA.symm
          have hB4 : Below w.heap.size w w4 := hB.trans (ht4.below hB.size (fun j hj => (hs.mem j hj).1))
          have hta := take_any bq w.heap.size l.length l.length y _ Fq w4 hq4 (by omega)
          clear hpo hs hq hB ht4
          go_wp2_with fail
          refine hta.mono ?_
          rintro e w5 ⟨rfl, hq5, ht5⟩
          have hs5 := hs4.keep ht5 hA
          have hB5 : Below w.heap.size w w5 := hB4.trans (ht5.below hB4.size (fun j hj => (hq4.mem j hj).1))
          have hc5 : w5.cell? ⟨g, off + k, none⟩ = some (.int .i64 y) := (hB5.cell (p := ⟨g, off + k, none⟩) hg).trans hc
          have hcx5 : w5.cell? ⟨g, off + (l.length - 1 - k), none⟩ = some (.int .i64 x) := (hB5.cell (p := ⟨g, off + (l.length - 1 - k), none⟩) hg).trans hcx
          have hbd : (l.length : Int) - 1 - k < l.length := by omega
          have hbd0 : (0 : Int) ≤ (l.length : Int) - 1 - k := by omega
          clear hta hs4 hq4 hB4 ht5 hc hcx
          go_wp2
          exact ⟨⟨k + 1, hlt, by go_num, hs5, hq5, hB5⟩, by simp [intOf]; omega⟩
        · obtain rfl : k = l.length := by omega
          rw [Nat.sub_self, List.take_zero] at hs
          rw [List.drop_length] at hq
          go_wp2_with fail
          refine (pop_none bs w.heap.size 0 Fs wr hs).mono ?_
          rintro e w' ⟨rfl, rfl⟩
          go_wp2_with fail
          refine (take_none bq w.heap.size l.length l.length Fq wr hq).mono ?_
          rintro e w' ⟨rfl, nq, rfl⟩
          obtain ⟨vs, hhs, -, hrs, -⟩ := hs
          obtain ⟨vq, ts, f, hhq, -, hrq, hf, hd, -, -⟩ := hq
          have hcs := heap_cell hhs 0
          have hcq0 := heap_cell hhq 0
          have hcq1 := heap_cell hhq 1
          simp only [List.getElem?_toArray, List.getElem?_cons_zero, List.getElem?_cons_succ] at hcs hcq0 hcq1
          have hlq : ts.length - f = 0 := by rw [← List.length_drop, hd]; rfl
          have hls := slen_same bs vs 0 (wr.drewN nq) w.heap.size [] hcs hrs
          have hlq2 := qlen_any bq f ts.length w.heap.size vq (ints ts) (wr.drewN nq) hcq0 hcq1 hrq hf
          rw [hlq] at hlq2
          clear hhs hhq hd hlq hlt
          go_wp2_with (first | (go_at_call 16; refine hls.mono ?_; rintro e w' ⟨rfl, rfl⟩) | (go_at_call 17; refine hlq2.mono ?_; rintro e w' ⟨rfl, n2, rfl⟩))
          go_ret
          exact ⟨rfl, below_drewN hB (nq + n2)⟩

end Go.Proofs.Ytcjblafohfiiaaa
