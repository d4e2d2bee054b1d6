/-
  An arena with its buffers, both new; plain, among; Put where there is room in the rest, or for a new buffer.
-/
import Derived.Test.YtpiemfchjlihfaaGreatDoorBF3
set_option linter.unusedVariables false
set_option maxRecDepth 20000
namespace Go.Proofs.YtpiemfchjlihfaaGreatDoor
open Go.RowKit

/-- An arena and its buffers, in blocks from n0 on. -/
structure Bw (n0 : Nat) (w : World) (b ab ag : Nat) (c : Cfg) (x : Tps) (ws : Nat → Int) (B : Bfs) : Prop where
  bf : Bf w b B
  ar : Ar w ab ag c x false ws
  ld : Laid w
  ne : b ≠ ab ∧ b ≠ ag
  lo : n0 ≤ b ∧ n0 ≤ ab ∧ n0 ≤ ag
  gl : 1 < n0 ∧ 0 < n0
  rs : ∀ t, t < 8 → Rst x B t

theorem Bw.glob {n0 : Nat} {w : World} {b ab ag : Nat} {c : Cfg} {x : Tps} {ws : Nat → Int} {B : Bfs} (W : Bw n0 w b ab ag c x ws B) : 1 ∉ [b, ab, ag] ∧ 0 ∉ [b, ab, ag] := by
  have h1 := W.lo
  have h2 := W.gl
  constructor
  · simp only [List.mem_cons, List.not_mem_nil, or_false]; omega
  · simp only [List.mem_cons, List.not_mem_nil, or_false]; omega

theorem Bw.below {n0 : Nat} {w w' : World} {b ab ag : Nat} {c : Cfg} {x : Tps} {ws : Nat → Int} {B : Bfs} (W : Bw n0 w b ab ag c x ws B) (l : Below w.heap.size w w') : Bw n0 w' b ab ag c x ws B :=
  ⟨W.bf.below l, W.ar.below l, W.ld.keep l, W.ne, W.lo, W.gl, W.rs⟩

/-- Another arena and buffers don't touch these. -/
theorem Bw.touch {n0 : Nat} {w w' : World} {b ab ag : Nat} {c : Cfg} {x : Tps} {ws : Nat → Int} {B : Bfs} {F : List Nat} (W : Bw n0 w b ab ag c x ws B) (l : Touch F w w') (hb : b ∉ F) (ha : ab ∉ F) (hg : ag ∉ F) (h0 : ∀ z, z ∈ F → n0 ≤ z) : Bw n0 w' b ab ag c x ws B :=
  ⟨W.bf.touch l hb, W.ar.touch l ha hg, W.ld.touch l (fun h => by have := h0 _ h; have := W.gl; omega) (fun h => by have := h0 _ h; have := W.gl; omega), W.ne, W.lo, W.gl, W.rs⟩

theorem Bfs.put_ne (B : Bfs) (t : Nat) (a n : Int) (u : Nat) (h : u ≠ t) : (B.put t a n).at_ u = B.at_ u ∧ (B.put t a n).ws u = B.ws u := by
  unfold Bfs.put
  simp [h]

theorem Rst.other {x x' : Tps} {B : Bfs} {u : Nat} (h : Rst x B u) (hx : x.t1 ≤ x'.t1) {B' : Bfs} (h1 : B'.at_ u = B.at_ u) (h2 : B'.ws u = B.ws u) : Rst x' B' u := by
  obtain ⟨a1, a2, a3, a4⟩ := h
  exact ⟨by rw [h2]; exact a1, by rw [h1, h2]; exact a2, by rw [h1, h2]; exact a3, by rw [h1, h2]; exact fun e => by have := a4 e; omega⟩

theorem Rst.drop {x : Tps} {B : Bfs} {t : Nat} (h : Rst x B t) {n : Int} (h0 : 0 ≤ n) (hn : n ≤ B.ws t) : Rst x (B.drop t n) t := by
  refine ⟨?_, ?_, ?_, ?_⟩
  all_goals unfold Bfs.drop
  all_goals rw [Bfs.put_ws]
  · omega
  · intro e; rw [Bfs.put_at, if_pos e]
  · intro e; rw [Bfs.put_at, if_neg (by omega)]; have := h.q0 (by omega); omega
  · intro e; rw [Bfs.put_at, if_neg (by omega)]; have := h.q1 (by omega); omega

/-- A head that may be. -/
structure Hd13 (s k p r a y : Int) (n : Nat) : Prop where
  s : Wd s
  f : flt k p r a y = 0
  n : (n : Int) = 2 + p + r

theorem Hd13.two {s k p r a y : Int} {n : Nat} (h : Hd13 s k p r a y n) : 2 ≤ n := by
  have m := May.of h.f
  have := m.p0
  have := m.r0
  have := h.n
  omega

theorem Bw.rest {n0 : Nat} {w : World} {b ab ag : Nat} {c : Cfg} {x : Tps} {ws : Nat → Int} {B : Bfs} (W : Bw n0 w b ab ag c x ws B) (t : Nat) (ht : (t : Int) < B.n) {s k p r a y : Int} {n : Nat} (h : Bool) (H : Hd13 s k p r a y n) (hc : (n : Int) ≤ B.ws t) (q : Nat) (hq : B.at_ t = q) :
    Calls Tryz.prog 15 #[.pointer (some ⟨b, 0, none⟩), .pointer (some ⟨ab, 0, none⟩), .int .i64 t, hv s k p r a y h] w fun e w' => e = .returned (.tuple #[.int .i64 q, .bool true]) ∧ Bw n0 w' b ab ag c x (fil13 (putw ws q n (wrd k p r a y h) s) ((B.drop t n).at_ t) ((B.drop t n).ws t)) (B.drop t n) ∧ Touch [b, ab, ag] w w' := by
  have ht8 : t < 8 := by have := W.bf.n1; omega
  have h2 := H.two
  refine (bput_rest W.bf W.ar W.ld W.ne W.glob t ht (W.rs t ht8) s k p r a y h H.s H.f n H.n hc q hq).mono ?_
  rintro e w' ⟨rfl, a1, a2, a3⟩
  refine ⟨rfl, ⟨a2, a1, W.ld.touch a3 W.glob.1 W.glob.2, W.ne, W.lo, W.gl, fun u hu => ?_⟩, a3⟩
  by_cases e : u = t
  · subst e
    exact (W.rs u hu).drop (by omega) hc
  · obtain ⟨e1, e2⟩ := Bfs.put_ne B t (if B.ws t - n = 0 then 0 else B.at_ t + n) (B.ws t - n) u e
    exact (W.rs u hu).other (Int.le_refl _) e1 e2

theorem Bw.new {n0 : Nat} {w : World} {b ab ag : Nat} {c : Cfg} {x : Tps} {ws : Nat → Int} {B : Bfs} (W : Bw n0 w b ab ag c x ws B) (t : Nat) (ht : (t : Int) < B.n) {s k p r a y : Int} {n : Nat} (h : Bool) (H : Hd13 s k p r a y n) (hc : ¬ (n : Int) ≤ B.ws t) (hc1 : (n : Int) ≤ B.size) (hc2 : (n : Int) ≤ 1 + c.eden - x.t1) (q z : Nat) (hq : x.t1 = q) (hz : min B.size (1 + c.eden - x.t1) = z) :
    Calls Tryz.prog 15 #[.pointer (some ⟨b, 0, none⟩), .pointer (some ⟨ab, 0, none⟩), .int .i64 t, hv s k p r a y h] w fun e w' => e = .returned (.tuple #[.int .i64 q, .bool true]) ∧ Bw n0 w' b ab ag c (x.put 1 (q + z)) (fil13 (putw (zer ws q z) q n (wrd k p r a y h) s) (((B.put t q z).drop t n).at_ t) (((B.put t q z).drop t n).ws t)) ((B.put t q z).drop t n) ∧ Touch [b, ab, ag] w w' := by
  have ht8 : t < 8 := by have := W.bf.n1; omega
  have h2 := H.two
  have t0 := W.ar.t10
  have hz1 : (n : Int) ≤ z := by omega
  refine (bput_new W.bf W.ar W.ld W.ne W.glob t ht (W.rs t ht8) s k p r a y h H.s H.f n H.n hc hc1 hc2 q z hq hz).mono ?_
  rintro e w' ⟨rfl, a1, a2, a3⟩
  refine ⟨rfl, ⟨a2, a1, W.ld.touch a3 W.glob.1 W.glob.2, W.ne, W.lo, W.gl, fun u hu => ?_⟩, a3⟩
  have hx : (x.put 1 ((q : Int) + z)).t1 = q + z := rfl
  by_cases e : u = t
  · subst e
    refine Rst.drop ⟨?_, ?_, ?_, ?_⟩ (by omega) ?_
    all_goals rw [Bfs.put_ws]
    · omega
    · intro e; omega
    · intro e; rw [Bfs.put_at]; omega
    · intro e; rw [Bfs.put_at, hx]; omega
    · exact hz1
  · obtain ⟨e1, e2⟩ := Bfs.put_ne (B.put t q z) t (if (B.put t q z).ws t - n = 0 then 0 else (B.put t q z).at_ t + n) ((B.put t q z).ws t - n) u e
    obtain ⟨e3, e4⟩ := Bfs.put_ne B t (q : Int) (z : Int) u e
    exact (W.rs u hu).other (by rw [hx]; omega) (e1.trans e3) (e2.trans e4)

theorem plain_hd (r : Nat) (h : r ≤ 1000) : Hd13 1 1 0 r 0 0 (r + 2) := by
  refine ⟨⟨by decide, by decide⟩, ?_, by omega⟩
  unfold flt
  rw [if_neg (by omega), if_neg (by omega), if_neg (by omega), if_neg (by omega), if_neg (by omega)]

abbrev csm : Cfg := ⟨64, 64, 64, 64, 0, 1, 1, 50, 1, 2, 1, 0, 0, 1⟩
theorem csm_ok : csm.Ok := by constructor <;> decide

/-- What is made is an arena with its buffers. -/
theorem Bw.start {n0 : Nat} {w w' : World} {b ab ag : Nat} {c : Cfg} (hA : Ar w ab ag c (tops0 c) false (fun _ => 0)) (hL : Laid w) (hl : n0 ≤ ab ∧ n0 ≤ ag) (hg : 1 < n0 ∧ 0 < n0) {n s : Int} (hb : Bf w' b (bfs0 n s)) (l : Below w.heap.size w w') (hbl : w.heap.size ≤ b) : Bw n0 w' b ab ag c (tops0 c) (fun _ => 0) (bfs0 n s) := by
  have h1 := hA.own.lt
  have h2 := hA.row.lt
  refine ⟨hb, hA.below l, hL.keep l, ⟨by omega, by omega⟩, ⟨by omega, hl.1, hl.2⟩, hg, fun t _ => ⟨Int.le_refl _, fun _ => rfl, fun h => absurd h (Int.lt_irrefl 0), fun h => absurd h (Int.lt_irrefl 0)⟩⟩

end Go.Proofs.YtpiemfchjlihfaaGreatDoor
