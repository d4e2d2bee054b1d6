/-
  What was put is one thing longer: the state behind it; a raw field is written.
-/
import Derived.Test.YtpiemfchjlihfaaDoorBS4
set_option linter.unusedVariables false
set_option maxRecDepth 20000
namespace Go.Proofs.YtpiemfchjlihfaaDoor
open Go.RowKit Go.Shelf

theorem oflat_snoc (Th : List Ob) (T : Ob) : oflat (Th ++ [T]) = oflat Th ++ T.cells.toList := by simp [oflat]

theorem row_base13 {w : World} {base n e size : Nat} {v : Value} {xs : List Value} (h : w.ownsRow base e size v n xs) (q : Nat) (hq : v.ownBlock = some q) : base ≤ q := by
  rcases h.2 with ⟨e1, -⟩ | ⟨g, cap, cur, e1, e2, -⟩
  · rw [e1] at hq
    simp [Value.ownBlock] at hq
  · rw [e1] at hq
    simp [Value.ownBlock] at hq
    omega

theorem made_zero (w : World) (q n : Nat) (h : w.heap[q]? = some (.cells (madeCells #[.int .u64 0] n) 36 (0, 0))) : w.rowIs q 36 n (fun _ => .int .u64 0) :=
  ⟨_, h, by simp [size_madeCells], fun i hi => by
    have hs : i < (madeCells #[Value.int .u64 0] n).size := by simp [size_madeCells]; exact hi
    rw [Array.getElem?_eq_getElem hs]
    simp [madeCells, Nat.mod_one]⟩

/-- Behind an append onto what was put. -/
theorem Ws.laid {n0 : Nat} {w5 w6 : World} {wb b ab ag nt : Nat} {c : Cfg} {top' : Nat} {ws' : Nat → Int} {B' : Bfs} {L' : List Sg} {Th : List Ob} {lv lv' : Value} {T : Ob}
    (hB : Bw n0 w5 b ab ag c (xt c top') ws' B') (hW : Wo (xt c top') ws' B' top' L' (Th ++ [T]))
    (hQ : w5.heap[wb]? = some (.cells #[.pointer (some ⟨ab, 0, none⟩), .pointer (some ⟨b, 0, none⟩), .int .i64 nt, lv] 52 (0, 0))) (hM : Mo w5 n0 ag lv Th) (hlo : n0 ≤ wb) (hnt : B'.n = nt) (hn : n0 ≤ w5.heap.size)
    (hTg : T.gr = w5.heap.size) (hT0 : T.raws = fun _ => 0)
    (l : Touch lv.ownBlock.toList w5 w6) (hnew : w6.heap[w5.heap.size]? = some (.cells (madeCells #[.int .u64 0] T.r) 36 (0, 0)))
    (r6 : w6.ownsRow n0 56 9 lv' (Th.length + 1) (oflat Th ++ T.cells.toList)) :
    Ws n0 (w6.setCell ⟨wb, 3, none⟩ lv') wb b ab ag nt c top' ws' B' L' (Th ++ [T]) lv' ∧ Below n0 w5 (w6.setCell ⟨wb, 3, none⟩ lv') := by
  have t1 : Touch (wb :: lv.ownBlock.toList) w5 (w6.setCell ⟨wb, 3, none⟩ lv') := ((Touch.refl _ _).then l (fun z hz => .inl (List.mem_cons_of_mem _ hz))).trans (Touch.setCell _ _ _ (by simp))
  have hWl : wb < w5.heap.size := (Array.getElem?_eq_some_iff.1 hQ).1
  have wn : ∀ {p t n : Nat} {f : Nat → Value}, w5.rowIs p t n f → t ≠ 52 → p ≠ wb := fun h1 h2 => by
    obtain ⟨c1, e1, _⟩ := h1
    rintro rfl
    rw [hQ] at e1
    injection e1 with e
    injection e with _ e
    exact h2 e.symm
  have ln : ∀ {p t n : Nat} {f : Nat → Value}, w5.rowIs p t n f → t ≠ 56 → lv.ownBlock ≠ some p := fun h1 h2 h3 => by
    obtain ⟨c1, e1, _⟩ := h1
    exact row_ne e1 hM.row h2 h3.symm
  have nm : ∀ {p t n : Nat} {f : Nat → Value}, w5.rowIs p t n f → t ≠ 52 → t ≠ 56 → p ∉ wb :: lv.ownBlock.toList := fun h1 h2 h3 => by
    simp only [List.mem_cons, Option.mem_toList, not_or]
    exact ⟨wn h1 h2, ln h1 h3⟩
  have lo : ∀ z, z ∈ wb :: lv.ownBlock.toList → n0 ≤ z := fun z hz => by
    simp only [List.mem_cons, Option.mem_toList] at hz
    rcases hz with h | h
    · omega
    · exact row_base13 hM.row z h
  have hwl : some wb ≠ lv.ownBlock := row_ne hQ hM.row (by decide)
  have hQ6 : w6.heap[wb]? = some (.cells #[.pointer (some ⟨ab, 0, none⟩), .pointer (some ⟨b, 0, none⟩), .int .i64 nt, lv] 52 (0, 0)) := (l.block wb hWl (by simp only [Option.mem_toList]; exact fun e => hwl e.symm)).trans hQ
  have hag := hB.ar.row.lt
  refine ⟨⟨hB.touch t1 (nm hB.bf.own (by decide) (by decide)) (nm hB.ar.own (by decide) (by decide)) (nm hB.ar.row (by decide) (by decide)) lo, hW, set_at hQ6 3 lv', ⟨?_, ?_, ?_⟩, hlo, hnt⟩, t1.below hn lo⟩
  · rw [oflat_snoc, List.length_append]
    exact row_keep r6 (fun q hq => Below.heap_setCell _ _ _ _ (fun e => row_ne hQ6 r6 (by decide) (by rw [hq]; exact congrArg some e.symm)))
  · intro U hU
    rcases List.mem_append.1 hU with h | h
    · obtain ⟨h1, h2, h3⟩ := hM.rb U h
      exact ⟨h1.of_block (t1.block _ h1.lt (nm h1 (by decide) (by decide))), h2, h3⟩
    · obtain rfl : U = T := by simpa using h
      rw [hTg, hT0]
      refine ⟨?_, hn, by omega⟩
      exact (made_zero w6 _ _ hnew).of_block (Below.heap_setCell _ _ _ _ (by show w5.heap.size ≠ wb; omega))
  · intro i j U V hi hj hij
    have old : ∀ k (Z : Ob), Th[k]? = some Z → Z.gr < w5.heap.size := fun k Z h => (hM.rb Z (List.mem_of_getElem? h)).1.lt
    have cs : ∀ k (Z : Ob), (Th ++ [T])[k]? = some Z → (Th[k]? = some Z) ∨ (k = Th.length ∧ Z = T) := fun k Z h => by
      rcases Nat.lt_trichotomy k Th.length with hk | hk | hk
      · rw [List.getElem?_append_left hk] at h
        exact .inl h
      · subst hk
        simp at h
        exact .inr ⟨rfl, h.symm⟩
      · rw [List.getElem?_eq_none (by simp; omega)] at h
        cases h
    rcases cs i U hi with h1 | ⟨h1, rfl⟩
    · rcases cs j V hj with h2 | ⟨h2, rfl⟩
      · exact hM.dp i j U V h1 h2 hij
      · have := old i U h1
        omega
    · rcases cs j V hj with h2 | ⟨h2, rfl⟩
      · have := old j V h2
        omega
      · omega

/-- The same, out of what the walk leaves. -/
theorem laid_touch {w5 w6 : World} {r : Nat} {C : Array Value} {lv : Value} {n0 n : Nat} {xs : List Value} (hg : ((w5.alloc (.cells (madeCells #[.int .u64 0] r) 36)).alloc (.cells C 56)).grownBy w6 lv.ownBlock) (hr : w5.ownsRow n0 56 9 lv n xs) : Touch lv.ownBlock.toList w5 w6 ∧ w6.heap[w5.heap.size]? = some (.cells (madeCells #[.int .u64 0] r) 36 (0, 0)) := by
  have hs := hg.size
  simp at hs
  refine ⟨⟨hg.os, hg.tape, hg.output, by omega, fun k hk hn => ?_⟩, ?_⟩
  · rw [hg.block k (by simp; omega) (fun e => hn (by rw [← e]; simp))]
    rw [Below.heap_alloc _ _ k (by simp; omega)]
    exact Below.heap_alloc _ _ k hk
  · rw [hg.block _ (by simp; omega) (fun e => by have := row_lt hr _ e.symm; omega)]
    rw [Below.heap_alloc _ _ _ (by simp)]
    exact heap_alloc_new w5 _

end Go.Proofs.YtpiemfchjlihfaaDoor
