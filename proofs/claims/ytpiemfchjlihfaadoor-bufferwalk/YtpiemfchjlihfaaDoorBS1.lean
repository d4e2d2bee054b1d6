/-
  Put, into the whole state: what it answers, what stands there then.
-/
import Derived.Test.YtpiemfchjlihfaaDoorBW3
set_option linter.unusedVariables false
set_option maxRecDepth 20000
namespace Go.Proofs.YtpiemfchjlihfaaDoor
open Go.RowKit Go.Shelf

theorem rowIs_ne {w : World} {p q t u n m : Nat} {f g : Nat → Value} (h1 : w.rowIs p t n f) (h2 : w.rowIs q u m g) (h : t ≠ u) : p ≠ q := by
  obtain ⟨c1, e1, _⟩ := h1
  obtain ⟨c2, e2, _⟩ := h2
  rintro rfl
  rw [e1] at e2
  injection e2 with e
  injection e with _ e
  exact h e

/-- Where an object's raw fields lie in the walker's memory is no matter. -/
theorem Wo.regr {x : Tps} {ws : Nat → Int} {B : Bfs} {top : Nat} {L : List Sg} {Th : List Ob} {T : Ob} (W : Wo x ws B top L (Th ++ [T])) (g : Nat) : Wo x ws B top L (Th ++ [{ T with gr := g }]) := by
  refine ⟨W.tp, W.ch, W.rs, W.ne, by simpa using W.ob, fun U hU => ?_, W.nf⟩
  rcases List.mem_append.1 hU with h | h
  · exact W.th U (List.mem_append.2 (.inl h))
  · obtain rfl : U = { T with gr := g } := by simpa using h
    have := W.th T (List.mem_append.2 (.inr (by simp)))
    exact ⟨this.f, this.s, this.at_, this.ptr, this.raw, this.wd⟩

section
variable {n0 : Nat} {w w' : World} {wb b ab ag nt : Nat} {c : Cfg} {top : Nat} {ws : Nat → Int} {B : Bfs} {L : List Sg} {Th : List Ob} {lv : Value}

/-- What the calls of arena and buffers leave. -/
theorem Ws.frame (S : Ws n0 w wb b ab ag nt c top ws B L Th lv) (l : Touch [b, ab, ag] w w') : w'.heap[wb]? = w.heap[wb]? ∧ Mo w' n0 ag lv Th := by
  have hb := S.bw.bf.own
  have ha := S.bw.ar.own
  have hg := S.bw.ar.row
  have wn : ∀ {p t n : Nat} {f : Nat → Value}, w.rowIs p t n f → t ≠ 52 → wb ≠ p := fun h1 h2 => by
    obtain ⟨c1, e1, _⟩ := h1
    rintro rfl
    rw [S.wq] at e1
    injection e1 with e
    injection e with _ e
    exact h2 e.symm
  refine ⟨l.block wb (Array.getElem?_eq_some_iff.1 S.wq).1 ?_, S.mo.keep (fun q hq => l.block q (row_lt S.mo.row q hq) ?_) (fun T hT => ?_)⟩
  · simp only [List.mem_cons, List.not_mem_nil, or_false, not_or]
    exact ⟨wn hb (by decide), wn ha (by decide), wn hg (by decide)⟩
  · simp only [List.mem_cons, List.not_mem_nil, or_false, not_or]
    obtain ⟨c1, e1, _⟩ := hb
    obtain ⟨c2, e2, _⟩ := ha
    obtain ⟨c3, e3, _⟩ := hg
    refine ⟨fun e => row_ne e1 S.mo.row (by decide) (by rw [hq, e]), fun e => row_ne e2 S.mo.row (by decide) (by rw [hq, e]), fun e => row_ne e3 S.mo.row (by decide) (by rw [hq, e])⟩
  · obtain ⟨h1, h2, h3⟩ := S.mo.rb T hT
    refine l.block T.gr h1.lt ?_
    simp only [List.mem_cons, List.not_mem_nil, or_false, not_or]
    exact ⟨rowIs_ne h1 hb (by decide), rowIs_ne h1 ha (by decide), h3⟩

/-- Another top of eden. -/
theorem xt_put (c : Cfg) (top z : Nat) : (xt c top).put 1 ((top : Int) + z) = xt c (top + z) := rfl

theorem Ws.put (S : Ws n0 w wb b ab ag nt c top ws B L Th lv) (t : Nat) (ht : t < nt) {s k a y : Int} {p r : Nat} (h : Bool) (hs : Wd s) (hf : flt k p r a y = 0) :
    Calls Tryd.prog 10 #[.pointer (some ⟨b, 0, none⟩), .pointer (some ⟨ab, 0, none⟩), .int .i64 t, hv s k p r a y h] w fun e w' => ∃ (ok : Bool) (q top' : Nat) (ws' : Nat → Int) (B' : Bfs) (L' : List Sg), e = .returned (.tuple #[.int .i64 q, .bool ok]) ∧ ok = decide ((2 : Int) + p + r ≤ max (B.ws t) (1 + c.eden - top)) ∧ Bw n0 w' b ab ag c (xt c top') ws' B' ∧ B'.n = B.n ∧ B'.size = B.size ∧ Touch [b, ab, ag] w w' ∧ (ok = false → Wo (xt c top') ws' B' top' L' Th) ∧ (ok = true → ∀ gr, Wo (xt c top') ws' B' top' L' (Th ++ [⟨q, s, k, p, r, a, y, h, fun _ => 0, gr⟩])) := by
  have hB := S.bw
  have hnt := S.nt
  have ht8 : t < 8 := by have := hB.bf.n1; omega
  have htB : (t : Int) < B.n := by omega
  have H : Hd13 s k p r a y (2 + p + r) := ⟨hs, hf, by omega⟩
  have htop := S.topl.1
  have htop2 := S.topl.2
  obtain ⟨q0, N, hq0, hN, -, -, hq7, hN7⟩ := S.rest ht8
  have hs1 := hB.bf.s1
  have hx1 : (xt c top).t1 = (top : Int) := rfl
  by_cases hc : ((2 + p + r : Nat) : Int) ≤ B.ws t
  · obtain ⟨L', hL'⟩ := S.wo.rest (gr := 0) (by omega) ht8 h hf hs hc hq0
    refine (hB.rest t htB h H hc q0 hq0).mono ?_
    rintro e w1 ⟨rfl, b1, t1⟩
    exact ⟨true, q0, top, _, _, L', rfl, (decide_eq_true (by omega)).symm, b1, rfl, rfl, t1, (fun e => nomatch e), fun _ gr => hL'.regr gr⟩
  · by_cases hc2 : ((2 + p + r : Nat) : Int) ≤ 1 + c.eden - top
    · by_cases hc1 : ((2 + p + r : Nat) : Int) ≤ B.size
      · obtain ⟨z, hz⟩ : ∃ z : Nat, min B.size (1 + c.eden - (xt c top).t1) = z := ⟨(min B.size (1 + c.eden - (xt c top).t1)).toNat, by rw [hx1]; omega⟩
        rw [hx1] at hz
        obtain ⟨L', hL'⟩ := S.wo.new (gr := 0) (z := z) ht8 h hf hs (by omega) (by omega) (by omega)
        refine (hB.new t htB h H hc hc1 hc2 top z rfl hz).mono ?_
        rintro e w1 ⟨rfl, b1, t1⟩
        exact ⟨true, top, top + z, _, _, L', rfl, (decide_eq_true (by omega)).symm, b1, rfl, rfl, t1, (fun e => nomatch e), fun _ gr => hL'.regr gr⟩
      · obtain ⟨L', hL'⟩ := S.wo.eden (gr := 0) h hf hs
        have hfl := hL'.fil ht8 (by omega)
        refine (bput_eden hB.bf hB.ar hB.ld hB.ne hB.glob t htB (hB.rs t ht8) s k p r a y h hs hf (2 + p + r) (by omega) hc (fun h9 => hc1 h9.1) hc2 top rfl).mono ?_
        rintro e w1 ⟨rfl, a1, a2, t1⟩
        rw [hfl] at a1
        exact ⟨true, top, top + (2 + p + r), _, B, L', rfl, (decide_eq_true (by omega)).symm, ⟨a2, a1, hB.ld.touch t1 hB.glob.1 hB.glob.2, hB.ne, hB.lo, hB.gl, fun u hu => (hB.rs u hu).other (by show (top : Int) ≤ ((top + (2 + p + r) : Nat) : Int); omega) rfl rfl⟩, rfl, rfl, t1, (fun e => nomatch e), fun _ gr => hL'.regr gr⟩
    · have hfl := S.wo.fil ht8 (by omega)
      refine (bput_full hB.bf hB.ar hB.ld hB.ne hB.glob t htB (hB.rs t ht8) s k p r a y h hs hf (2 + p + r) (by omega) hc hc2).mono ?_
      rintro e w1 ⟨rfl, a1, a2, t1⟩
      rw [hfl] at a1
      exact ⟨false, 0, top, ws, B, L, rfl, (decide_eq_false (by omega)).symm, ⟨a2, a1, hB.ld.touch t1 hB.glob.1 hB.glob.2, hB.ne, hB.lo, hB.gl, hB.rs⟩, rfl, rfl, t1, fun _ => S.wo, (fun e => nomatch e)⟩

/-- The arena's own Put into eden. -/
theorem Ws.eden (S : Ws n0 w wb b ab ag nt c top ws B L Th lv) {s k a y : Int} {p r : Nat} (h : Bool) (hs : Wd s) (hf : flt k p r a y = 0) :
    Calls Tryd.prog 30 #[.pointer (some ⟨ab, 0, none⟩), .int .i64 1, hv s k p r a y h] w fun e w' => ∃ (ok : Bool) (q top' : Nat) (ws' : Nat → Int) (B' : Bfs) (L' : List Sg), e = .returned (.tuple #[.int .i64 q, .bool ok]) ∧ Bw n0 w' b ab ag c (xt c top') ws' B' ∧ B'.n = B.n ∧ B'.size = B.size ∧ Touch [b, ab, ag] w w' ∧ (ok = false → Wo (xt c top') ws' B' top' L' Th) ∧ (ok = true → ∀ gr, Wo (xt c top') ws' B' top' L' (Th ++ [⟨q, s, k, p, r, a, y, h, fun _ => 0, gr⟩])) := by
  have hB := S.bw
  have htop := S.topl.1
  have htop2 := S.topl.2
  by_cases hc2 : ((2 + p + r : Nat) : Int) ≤ 1 + c.eden - top
  · obtain ⟨L', hL'⟩ := S.wo.eden (gr := 0) h hf hs
    refine (put_yes ab ag c (xt c top) false ws 1 s k p r a y h hs hf top (2 + p + r) rfl (by omega) (by show (top : Int) + (2 + p + r : Nat) ≤ 1 + c.eden; omega) w hB.ar hB.ld).mono ?_
    rintro e w1 ⟨rfl, a1, t1⟩
    have hn : b ∉ [ab, ag] := by simp only [List.mem_cons, List.not_mem_nil, or_false, not_or]; exact hB.ne
    have t2 : Touch [b, ab, ag] w w1 := (Touch.refl _ _).then t1 (fun z hz => .inl (List.mem_cons_of_mem _ hz))
    exact ⟨true, top, top + (2 + p + r), _, B, L', rfl, ⟨hB.bf.touch t1 hn, a1, hB.ld.touch t2 hB.glob.1 hB.glob.2, hB.ne, hB.lo, hB.gl, fun u hu => (hB.rs u hu).other (by show (top : Int) ≤ ((top + (2 + p + r) : Nat) : Int); omega) rfl rfl⟩, rfl, rfl, t2, (fun e => nomatch e), fun _ gr => hL'.regr gr⟩
  · refine (put_full ab ag c (xt c top) false ws 1 s k p r a y h hf (by show ¬ (2 : Int) + p + r ≤ 1 + c.eden - top; omega) w hB.ar hB.ld).mono ?_
    rintro e w1 ⟨rfl, b1⟩
    exact ⟨false, 0, top, ws, B, L, rfl, hB.below b1, rfl, rfl, Touch.of_below b1 _, fun _ => S.wo, (fun e => nomatch e)⟩

end
end Go.Proofs.YtpiemfchjlihfaaDoor
