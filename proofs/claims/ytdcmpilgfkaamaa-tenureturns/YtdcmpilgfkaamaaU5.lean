/-
  TenureNews, TenureTurns, walked.
-/
import Derived.Test.YtdcmpilgfkaamaaU4
import Derived.Test.YtdcmpilgfkaamaaTOpen
set_option linter.unusedVariables false
namespace Go.Proofs.Ytdcmpilgfkaamaa
open Go.RowKit

set_option maxHeartbeats 2000000 in
theorem news_any (s t m : Int) (w : World) :
    Calls Try.prog 3 #[.int .i64 s, .int .i64 t, .int .i64 m] w fun e w' => e = .returned (.bool true) ∧ Below w.heap.size w w' := by
  by_cases h : May s t m
  · obtain ⟨k, rfl⟩ : ∃ k : Nat, m = k := ⟨m.toNat, by unfold May at h; omega⟩
    have h1 := begin_yes s t k h w
    clear h
    go_enter Try.func3, Try.ntmps3
    go_wp2_with fail
    refine h1.mono ?_
    rintro e w' ⟨tb, rb, F, rfl, _, hb⟩
    go_wp2
    go_ret
    exact ⟨rfl, hb⟩
  · have h1 := begin_no s t m h w
    clear h
    go_enter Try.func3, Try.ntmps3
    go_wp2_with fail
    refine h1.mono ?_
    rintro e w' ⟨rfl, rfl⟩
    go_wp2
    go_ret
    exact ⟨rfl, Below.refl _ _⟩

theorem size_rowl (f : Nat → Int) : (Try.prog.info? 27).map (·.size) = some (row16 f).length := by rw [row16_length]; exact Try.sizeInts16

/-- What both are behind a Turn of both. -/
theorem Pr.turned {w w1 w2 : World} {base tb rb : Nat} {wa : Int} {mo : Nat} {L L' : List Int} {F F' : List Nat} (h : Pr w base tb rb wa mo L F) (h1 : ∃ f n, Tn w1 tb wa mo f n ∧ Hs f n L') (ht1 : Touch [tb] w w1)
    (h2 : Tr w2 base rb wa mo L' F') (ht2 : Touch F w1 w2) (hn : Newer w1.heap.size F F') : Pr w2 base tb rb wa mo L' F' ∧ Touch (tb :: F) w w2 ∧ Newer w.heap.size (tb :: F) (tb :: F') := by
  obtain ⟨f, n, h3, h4⟩ := h1
  refine ⟨⟨⟨f, n, h3.touch ht2 h.ap, h4⟩, h2, h.lo, fun hm => ?_⟩, ?_, ?_⟩
  · rcases hn tb hm with h5 | h5
    · exact h.ap h5
    · have := heap_lt h3.at_; omega
  · exact (ht1.mono (fun k hk => .inl (by simp at hk; simp [hk]))).trans (ht2.mono (fun k hk => .inl (by simp [hk])))
  · intro k hk
    rcases List.mem_cons.1 hk with rfl | hk
    · exact .inl (by simp)
    · rcases hn k hk with h5 | h5
      · exact .inl (by simp [h5])
      · exact .inr (Nat.le_trans ht1.size h5)

set_option maxHeartbeats 4000000 in
theorem turns_core (s t : Int) (m : Nat) (h : May s t m) (a : Option Addr) (cap : Nat) (T : List (Nat → Int)) (w : World) (hT : LTs w.heap.size w a T) :
    Calls Try.prog 6 #[.int .i64 s, .int .i64 t, .int .i64 m, .slice a T.length cap] w fun e w' => e = .returned (.bool true) ∧ Below w.heap.size w w' := by
  have h1 := begin_yes s t m h w
  have HT : Hid (LTs w.heap.size w a T) := hT
  clear h hT
  go_enter Try.func6, Try.ntmps6
  go_wp2_with fail
  refine h1.mono ?_
  rintro e w1 ⟨tb, rb, F, rfl, hP, hb⟩
  have HP : Hid (Pr w1 w.heap.size tb rb (wan s t) m [(m : Int)] F) := hP
  have HB : Hid (Below w.heap.size w w1) := hb
  clear h1 hP hb
  generalize wan s t = wa at HP
  go_wp2
  go_loopw [12] (fun i wr => ∃ k : Nat, k ≤ T.length ∧ k ≤ 200 ∧ i = .int .i64 k ∧ (∃ L F, L.length ≤ k + 1 ∧ Pr wr w.heap.size tb rb wa m L F) ∧ Below w.heap.size w wr) (fun i _ => T.length - (intOf i).toNat)
  case atStart => exact ⟨0, Nat.zero_le _, by omega, rfl, ⟨_, _, by simp, HP.out⟩, HB.out⟩
  case round =>
    obtain ⟨k, hk, hk200, rfl, ⟨L, F2, hL, hP⟩, hbel⟩ := hrel
    clear HP HB
    by_cases hlt : k < T.length
    · by_cases h200 : k < 200
      · obtain ⟨ws, hws⟩ : ∃ f, T[k]? = some f := ⟨_, List.getElem?_eq_getElem hlt⟩
        obtain ⟨g, off, ha, hg, hr⟩ := HT.out k ws hws
        subst ha
        obtain ⟨x, e, L', G⟩ := hP.goes (by omega) ws
        have hki : (k : Int) < T.length := by omega
        have hki2 : (k : Int) < 200 := by omega
        have HR : Hid (wr.rangeAt g (off + k * 16) (row16 ws)) := fun j v hv => by
          have := hr j v hv
          rw [← this]; simp [World.cell?, hbel.block g hg]
        have ht := G.t
        have HG : Hid (Goes wr w.heap.size tb rb wa m L F2 ws x e L') := G
        have HP : Hid (Pr wr w.heap.size tb rb wa m L F2) := hP
        have HB : Hid (Below w.heap.size w wr) := hbel
        have Hg : Hid (g < w.heap.size) := hg
        clear hr hws hP hbel G hg
        go_wp2_with (first
          | refine wpList_load_mid rfl 27 _ rfl g (off + k * 16) rfl _ _ HR.out Try.underlying27 rfl (size_rowl _) ?_)
        refine ht.mono ?_
        rintro e2 w2 ⟨rfl, hTn, ht2⟩
        have HTn : Hid (∃ f n, Tn w2 tb wa m f n ∧ Hs f n L') := hTn
        have HT2 : Hid (Touch [tb] wr w2) := ht2
        have HTr : Hid (Tr w2 w.heap.size rb wa m L F2) := HP.out.r.keep ht2 (fun j hj he => by simp at he; subst he; exact HP.out.ap hj)
        have HR2 : Hid (w2.rangeAt g (off + k * 16) (row16 ws)) := fun j v hv => by
          have h3 := HR.out j v hv
          rw [← h3]; simp [World.cell?, ht2.block g (by have := HB.out.size; have := Hg.out; omega) (by have := HP.out.lo; have := Hg.out; simp; omega)]
        have hrr := HG.out.r w2 HTr.out (by have := HB.out.size; have := ht2.size; omega)
        have hnum := num_any e w2
        clear ht hTn ht2 HR
        go_wp2_with (first
          | refine wpList_load_mid rfl 27 _ rfl g (off + k * 16) rfl _ _ HR2.out Try.underlying27 rfl (size_rowl _) ?_)
        refine hrr.mono ?_
        rintro e3 w3 ⟨rfl, F', hTr, ht3, hnw⟩
        obtain ⟨q1, q2, q3⟩ := HP.out.turned HTn.out HT2.out hTr ht3 hnw
        have HP3 : Hid (Pr w3 w.heap.size tb rb wa m L' F') := q1
        have HB3 : Hid (Below w.heap.size w w3) := HB.out.trans (q2.below HB.out.size (fun j hj => (HP.out.mem j hj).1))
        have HL : Hid (L'.length ≤ k + 1 + 1) := by have := HG.out.len; exact (by omega : L'.length ≤ k + 1 + 1)
        have hnum := num_any e w3
        clear hrr hTr ht3 hnw q1 q2 q3 HTn HT2 HTr HR2
        go_wp2_with fail
        refine hnum.mono ?_
        rintro e4 w' ⟨rfl, rfl⟩
        go_wp2
        go_roundw
        case rel => exact ⟨k + 1, by omega, by omega, by go_num, ⟨L', F', HL.out, HP3.out⟩, HB3.out⟩
        case measure => simp [intOf]; omega
      · obtain rfl : k = 200 := by omega
        have HB : Hid (Below w.heap.size w wr) := hbel
        clear hP hbel
        go_wp2
        go_ret
        exact ⟨rfl, HB.out⟩
    · obtain rfl : k = T.length := by omega
      have HB : Hid (Below w.heap.size w wr) := hbel
      clear hP hbel
      go_wp2
      go_ret
      exact ⟨rfl, HB.out⟩

set_option maxHeartbeats 2000000 in
theorem turns_any (s t m : Int) (a : Option Addr) (cap : Nat) (T : List (Nat → Int)) (w : World) (hT : LTs w.heap.size w a T) :
    Calls Try.prog 6 #[.int .i64 s, .int .i64 t, .int .i64 m, .slice a T.length cap] w fun e w' => e = .returned (.bool true) ∧ Below w.heap.size w w' := by
  by_cases h : May s t m
  · obtain ⟨k, rfl⟩ : ∃ k : Nat, m = k := ⟨m.toNat, by unfold May at h; omega⟩
    exact turns_core s t k h a cap T w hT
  · have h1 := begin_no s t m h w
    clear h hT
    go_enter Try.func6, Try.ntmps6
    go_wp2_with fail
    refine h1.mono ?_
    rintro e w' ⟨rfl, rfl⟩
    go_wp2
    go_ret
    exact ⟨rfl, Below.refl _ _⟩

end Go.Proofs.Ytdcmpilgfkaamaa
