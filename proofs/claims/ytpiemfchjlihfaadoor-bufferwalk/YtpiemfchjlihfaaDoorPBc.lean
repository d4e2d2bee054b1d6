import Derived.Test.YtpiemfchjlihfaaDoorBF3
/-
  An arena with its buffers, both new; plain, among; Put where there is room in the rest, or for a new buffer.
-/
set_option linter.unusedVariables false
set_option maxRecDepth 20000
namespace Go.Proofs.YtpiemfchjlihfaaDoor
open Go.RowKit

/-- An arena and its buffers, in blocks from n0 on. -/
structure Bw (n0 : Nat) (w : World) (b ab ag : Nat) (c : Cfg) (x : Tps) (ws : Nat → Int) (B : Bfs) : Prop where
  bf : Bf w b B
  ar : Ar w ab ag c x false ws
  ld : Laid w
  ne : b ≠ ab ∧ b ≠ ag
  lo : n0 ≤ b ∧ n0 ≤ ab ∧ n0 ≤ ag
  gl : 1 < n0 ∧ 0 < n0
  rs : ∀ t, t < 8 → Rst x B t

theorem Bw.glob {n0 : Nat} {w : World} {b ab ag : Nat} {c : Cfg} {x : Tps} {ws : Nat → Int} {B : Bfs} (W : Bw n0 w b ab ag c x ws B) : 1 ∉ [b, ab, ag] ∧ 0 ∉ [b, ab, ag] := by
  have h1 := W.lo
  have h2 := W.gl
  constructor
  · simp only [List.mem_cons, List.not_mem_nil, or_false]; omega
  · simp only [List.mem_cons, List.not_mem_nil, or_false]; omega

theorem Bw.below {n0 : Nat} {w w' : World} {b ab ag : Nat} {c : Cfg} {x : Tps} {ws : Nat → Int} {B : Bfs} (W : Bw n0 w b ab ag c x ws B) (l : Below w.heap.size w w') : Bw n0 w' b ab ag c x ws B :=
  ⟨W.bf.below l, W.ar.below l, W.ld.keep l, W.ne, W.lo, W.gl, W.rs⟩

/-- Another arena and buffers don't touch these. -/
theorem Bw.touch {n0 : Nat} {w w' : World} {b ab ag : Nat} {c : Cfg} {x : Tps} {ws : Nat → Int} {B : Bfs} {F : List Nat} (W : Bw n0 w b ab ag c x ws B) (l : Touch F w w') (hb : b ∉ F) (ha : ab ∉ F) (hg : ag ∉ F) (h0 : ∀ z, z ∈ F → n0 ≤ z) : Bw n0 w' b ab ag c x ws B :=
  ⟨W.bf.touch l hb, W.ar.touch l ha hg, W.ld.touch l (fun h => by have := h0 _ h; have := W.gl; omega) (fun h => by have := h0 _ h; have := W.gl; omega), W.ne, W.lo, W.gl, W.rs⟩

theorem Bfs.put_ne (B : Bfs) (t : Nat) (a n : Int) (u : Nat) (h : u ≠ t) : (B.put t a n).at_ u = B.at_ u ∧ (B.put t a n).ws u = B.ws u := by
  unfold Bfs.put
  simp [h]

theorem Rst.other {x x' : Tps} {B : Bfs} {u : Nat} (h : Rst x B u) (hx : x.t1 ≤ x'.t1) {B' : Bfs} (h1 : B'.at_ u = B.at_ u) (h2 : B'.ws u = B.ws u) : Rst x' B' u := by
  obtain ⟨a1, a2, a3, a4⟩ := h
  exact ⟨by rw [h2]; exact a1, by rw [h1, h2]; exact a2, by rw [h1, h2]; exact a3, by rw [h1, h2]; exact fun e => by have := a4 e; omega⟩

theorem Rst.drop {x : Tps} {B : Bfs} {t : Nat} (h : Rst x B t) {n : Int} (h0 : 0 ≤ n) (hn : n ≤ B.ws t) : Rst x (B.drop t n) t := by
  refine ⟨?_, ?_, ?_, ?_⟩
  all_goals unfold Bfs.drop
  all_goals rw [Bfs.put_ws]
  · omega
  · intro e; rw [Bfs.put_at, if_pos e]
  · intro e; rw [Bfs.put_at, if_neg (by omega)]; have := h.q0 (by omega); omega
  · intro e; rw [Bfs.put_at, if_neg (by omega)]; have := h.q1 (by omega); omega

/-- A head that may be. -/
structure Hd13 (s k p r a y : Int) (n : Nat) : Prop where
  s : Wd s
  f : flt k p r a y = 0
  n : (n : Int) = 2 + p + r

theorem Hd13.two {s k p r a y : Int} {n : Nat} (h : Hd13 s k p r a y n) : 2 ≤ n := by
  have m := May.of h.f
  have := m.p0
  have := m.r0
  have := h.n
  omega

theorem Bw.rest {n0 : Nat} {w : World} {b ab ag : Nat} {c : Cfg} {x : Tps} {ws : Nat → Int} {B : Bfs} (W : Bw n0 w b ab ag c x ws B) (t : Nat) (ht : (t : Int) < B.n) {s k p r a y : Int} {n : Nat} (h : Bool) (H : Hd13 s k p r a y n) (hc : (n : Int) ≤ B.ws t) (q : Nat) (hq : B.at_ t = q) :
    Calls Tryd.prog 10 #[.pointer (some ⟨b, 0, none⟩), .pointer (some ⟨ab, 0, none⟩), .int .i64 t, hv s k p r a y h] w fun e w' => e = .returned (.tuple #[.int .i64 q, .bool true]) ∧ Bw n0 w' b ab ag c x (fil13 (putw ws q n (wrd k p r a y h) s) ((B.drop t n).at_ t) ((B.drop t n).ws t)) (B.drop t n) ∧ Touch [b, ab, ag] w w' := by
  have ht8 : t < 8 := by have := W.bf.n1; omega
  have h2 := H.two
  refine (bput_rest W.bf W.ar W.ld W.ne W.glob t ht (W.rs t ht8) s k p r a y h H.s H.f n H.n hc q hq).mono ?_
  rintro e w' ⟨rfl, a1, a2, a3⟩
  refine ⟨rfl, ⟨a2, a1, W.ld.touch a3 W.glob.1 W.glob.2, W.ne, W.lo, W.gl, fun u hu => ?_⟩, a3⟩
  by_cases e : u = t
  · subst e
    exact (W.rs u hu).drop (by omega) hc
  · obtain ⟨e1, e2⟩ := Bfs.put_ne B t (if B.ws t - n = 0 then 0 else B.at_ t + n) (B.ws t - n) u e
    exact (W.rs u hu).other (Int.le_refl _) e1 e2

theorem Bw.new {n0 : Nat} {w : World} {b ab ag : Nat} {c : Cfg} {x : Tps} {ws : Nat → Int} {B : Bfs} (W : Bw n0 w b ab ag c x ws B) (t : Nat) (ht : (t : Int) < B.n) {s k p r a y : Int} {n : Nat} (h : Bool) (H : Hd13 s k p r a y n) (hc : ¬ (n : Int) ≤ B.ws t) (hc1 : (n : Int) ≤ B.size) (hc2 : (n : Int) ≤ 1 + c.eden - x.t1) (q z : Nat) (hq : x.t1 = q) (hz : min B.size (1 + c.eden - x.t1) = z) :
    Calls Tryd.prog 10 #[.pointer (some ⟨b, 0, none⟩), .pointer (some ⟨ab, 0, none⟩), .int .i64 t, hv s k p r a y h] w fun e w' => e = .returned (.tuple #[.int .i64 q, .bool true]) ∧ Bw n0 w' b ab ag c (x.put 1 (q + z)) (fil13 (putw (zer ws q z) q n (wrd k p r a y h) s) (((B.put t q z).drop t n).at_ t) (((B.put t q z).drop t n).ws t)) ((B.put t q z).drop t n) ∧ Touch [b, ab, ag] w w' := by
  have ht8 : t < 8 := by have := W.bf.n1; omega
  have h2 := H.two
  have t0 := W.ar.t10
  have hz1 : (n : Int) ≤ z := by omega
  refine (bput_new W.bf W.ar W.ld W.ne W.glob t ht (W.rs t ht8) s k p r a y h H.s H.f n H.n hc hc1 hc2 q z hq hz).mono ?_
  rintro e w' ⟨rfl, a1, a2, a3⟩
  refine ⟨rfl, ⟨a2, a1, W.ld.touch a3 W.glob.1 W.glob.2, W.ne, W.lo, W.gl, fun u hu => ?_⟩, a3⟩
  have hx : (x.put 1 ((q : Int) + z)).t1 = q + z := rfl
  by_cases e : u = t
  · subst e
    refine Rst.drop ⟨?_, ?_, ?_, ?_⟩ (by omega) ?_
    all_goals rw [Bfs.put_ws]
    · omega
    · intro e; omega
    · intro e; rw [Bfs.put_at]; omega
    · intro e; rw [Bfs.put_at, hx]; omega
    · exact hz1
  · obtain ⟨e1, e2⟩ := Bfs.put_ne (B.put t q z) t (if (B.put t q z).ws t - n = 0 then 0 else (B.put t q z).at_ t + n) ((B.put t q z).ws t - n) u e
    obtain ⟨e3, e4⟩ := Bfs.put_ne B t (q : Int) (z : Int) u e
    exact (W.rs u hu).other (by rw [hx]; omega) (e1.trans e3) (e2.trans e4)

/-- plain: a head with so many raw fields. -/
theorem plain_any (r : Int) (w : World) : Calls Tryd.prog 11 #[.int .i64 r] w fun e w' => e = .returned (hv 1 1 0 r 0 0 false) ∧ Below w.heap.size w w' := by
  go_enter Tryd.func11, Tryd.ntmps11
  go_wp2
  go_returns
  exact ⟨rfl, Below.alloc (Below.refl _ _) (Nat.le_refl _) _⟩

theorem plain_hd (r : Nat) (h : r ≤ 1000) : Hd13 1 1 0 r 0 0 (r + 2) := by
  refine ⟨⟨by decide, by decide⟩, ?_, by omega⟩
  unfold flt
  rw [if_neg (by omega), if_neg (by omega), if_neg (by omega), if_neg (by omega), if_neg (by omega)]

abbrev csm : Cfg := ⟨64, 64, 64, 64, 0, 1, 1, 50, 1, 2, 1, 0, 0, 1⟩
theorem csm_ok : csm.Ok := by constructor <;> decide

theorem small_any (w : World) : Calls Tryd.prog 6 #[] w fun e w' => e = .returned (cv csm) ∧ Below w.heap.size w w' := by
  go_enter Tryd.func6, Tryd.ntmps6
  go_wp2
  go_returns
  exact ⟨rfl, Below.alloc (Below.refl _ _) (Nat.le_refl _) _⟩

/-- What is made is an arena with its buffers. -/
theorem Bw.start {n0 : Nat} {w w' : World} {b ab ag : Nat} {c : Cfg} (hA : Ar w ab ag c (tops0 c) false (fun _ => 0)) (hL : Laid w) (hl : n0 ≤ ab ∧ n0 ≤ ag) (hg : 1 < n0 ∧ 0 < n0) {n s : Int} (hb : Bf w' b (bfs0 n s)) (l : Below w.heap.size w w') (hbl : w.heap.size ≤ b) : Bw n0 w' b ab ag c (tops0 c) (fun _ => 0) (bfs0 n s) := by
  have h1 := hA.own.lt
  have h2 := hA.row.lt
  refine ⟨hb, hA.below l, hL.keep l, ⟨by omega, by omega⟩, ⟨by omega, hl.1, hl.2⟩, hg, fun t _ => ⟨Int.le_refl _, fun _ => rfl, fun h => absurd h (Int.lt_irrefl 0), fun h => absurd h (Int.lt_irrefl 0)⟩⟩

end Go.Proofs.YtpiemfchjlihfaaDoor

/-
  known: the beginning of the chapter's first example.
-/
set_option linter.unusedVariables false
set_option maxRecDepth 20000
namespace Go.Proofs.YtpiemfchjlihfaaDoor
open Go.RowKit

set_option maxHeartbeats 4000000 in
theorem known13_any (w : World) (hL : Laid w) : Calls Tryd.prog 5 #[] w fun e w' => e = .returned (.bool true) ∧ Below w.heap.size w w' := by
  have HL : Hid (Laid w) := hL
  have q := small_any w
  clear hL
  go_enter Tryd.func5, Tryd.ntmps5
  go_wp2_with fail
  refine q.mono ?_
  rintro e9 w1 ⟨rfl, b1⟩
  have H1 : Hid (Below w.heap.size w w1) := b1
  clear q b1
  have q := new_yes csm csm_ok w1
  go_wp2_with fail
  refine q.mono ?_
  rintro e9 w2 ⟨ab, ag, rfl, hA, b2, l1, l2⟩
  have H2 : Hid (Below w.heap.size w w2) := H1.out.trans (b2.mono H1.out.size)
  have HA : Hid (Ar w2 ab ag csm (tops0 csm) false (fun _ => 0)) := hA
  have Hl : Hid (w.heap.size ≤ ab ∧ w.heap.size ≤ ag) := ⟨by have := H1.out.size; omega, by have := H1.out.size; omega⟩
  clear q hA b2 l1 l2 H1
  have q := bnew_yes 2 10 (by decide) w2
  go_wp2_with fail
  refine q.mono ?_
  rintro e9 w3 ⟨b, rfl, hb, b3, l3⟩
  have HW : Hid (Bw w.heap.size w3 b ab ag csm (tops0 csm) (fun _ => 0) (bfs0 2 10)) := Bw.start HA.out (HL.out.keep H2.out) Hl.out ⟨HL.out.lt0, HL.out.lt1⟩ hb b3 l3
  have H3 : Hid (Below w.heap.size w w3) := H2.out.trans (b3.mono H2.out.size)
  have Hlo : Hid (∀ z, z ∈ [b, ab, ag] → w.heap.size ≤ z) := fun z hz => by
    have := HW.out.lo
    simp only [List.mem_cons, List.not_mem_nil, or_false] at hz
    omega
  clear q hb b3 l3 HA H2
  have q := plain_any 2 w3
  go_wp2_with fail
  refine q.mono ?_
  rintro e9 w4 ⟨rfl, b4⟩
  have q2 := (HW.out.below b4).new 0 (by decide) false (plain_hd 2 (by decide)) (by decide) (by decide) (by decide) 1 10 rfl rfl
  have H4 : Hid (Below w.heap.size w w4) := H3.out.trans (b4.mono H3.out.size)
  clear q b4 HW H3
  go_wp2_with fail
  refine q2.mono ?_
  rintro e9 w5 ⟨rfl, a1, a2⟩
  have H5 : Hid (Below w.heap.size w w5) := H4.out.trans (a2.below H4.out.size Hlo.out)
  obtain ⟨ws5, hws⟩ : ∃ v : Nat → Int, Bw w.heap.size w5 b ab ag csm ((tops0 csm).put 1 ((1 : Nat) + (10 : Nat))) v (((bfs0 2 10).put 0 (1 : Nat) (10 : Nat)).drop 0 (2 + 2 : Nat)) := ⟨_, a1⟩
  have HW : Hid (Bw w.heap.size w5 b ab ag csm ((tops0 csm).put 1 ((1 : Nat) + (10 : Nat))) ws5 (((bfs0 2 10).put 0 (1 : Nat) (10 : Nat)).drop 0 (2 + 2 : Nat))) := hws
  clear q2 a1 a2 hws H4
  have q := plain_any 1 w5
  go_wp2_with fail
  refine q.mono ?_
  rintro e9 w6 ⟨rfl, b4⟩
  have q2 := (HW.out.below b4).new 1 (by decide) false (plain_hd 1 (by decide)) (by decide) (by decide) (by decide) 11 10 rfl rfl
  have H6 : Hid (Below w.heap.size w w6) := H5.out.trans (b4.mono H5.out.size)
  clear q b4 HW H5
  go_wp2_with fail
  refine q2.mono ?_
  rintro e9 w7 ⟨rfl, a1, a2⟩
  have H7 : Hid (Below w.heap.size w w7) := H6.out.trans (a2.below H6.out.size Hlo.out)
  obtain ⟨ws7, hws⟩ : ∃ v : Nat → Int, Bw w.heap.size w7 b ab ag csm (((tops0 csm).put 1 ((1 : Nat) + (10 : Nat))).put 1 ((11 : Nat) + (10 : Nat))) v (((((bfs0 2 10).put 0 (1 : Nat) (10 : Nat)).drop 0 (2 + 2 : Nat)).put 1 (11 : Nat) (10 : Nat)).drop 1 (1 + 2 : Nat)) := ⟨_, a1⟩
  have HW : Hid (Bw w.heap.size w7 b ab ag csm (((tops0 csm).put 1 ((1 : Nat) + (10 : Nat))).put 1 ((11 : Nat) + (10 : Nat))) ws7 (((((bfs0 2 10).put 0 (1 : Nat) (10 : Nat)).drop 0 (2 + 2 : Nat)).put 1 (11 : Nat) (10 : Nat)).drop 1 (1 + 2 : Nat))) := hws
  clear q2 a1 a2 hws H6
  have q := plain_any 4 w7
  go_wp2_with fail
  refine q.mono ?_
  rintro e9 w8 ⟨rfl, b4⟩
  have q2 := (HW.out.below b4).rest 0 (by decide) false (plain_hd 4 (by decide)) (by decide) 5 rfl
  have H8 : Hid (Below w.heap.size w w8) := H7.out.trans (b4.mono H7.out.size)
  clear q b4 HW H7
  go_wp2_with fail
  refine q2.mono ?_
  rintro e9 w9 ⟨rfl, a1, a2⟩
  have H9 : Hid (Below w.heap.size w w9) := H8.out.trans (a2.below H8.out.size Hlo.out)
  obtain ⟨ws9, hws⟩ : ∃ v : Nat → Int, Bw w.heap.size w9 b ab ag csm (((tops0 csm).put 1 ((1 : Nat) + (10 : Nat))).put 1 ((11 : Nat) + (10 : Nat))) v ((((((bfs0 2 10).put 0 (1 : Nat) (10 : Nat)).drop 0 (2 + 2 : Nat)).put 1 (11 : Nat) (10 : Nat)).drop 1 (1 + 2 : Nat)).drop 0 (4 + 2 : Nat)) := ⟨_, a1⟩
  have HW : Hid (Bw w.heap.size w9 b ab ag csm (((tops0 csm).put 1 ((1 : Nat) + (10 : Nat))).put 1 ((11 : Nat) + (10 : Nat))) ws9 ((((((bfs0 2 10).put 0 (1 : Nat) (10 : Nat)).drop 0 (2 + 2 : Nat)).put 1 (11 : Nat) (10 : Nat)).drop 1 (1 + 2 : Nat)).drop 0 (4 + 2 : Nat))) := hws
  clear q2 a1 a2 hws H8
  have q := brest_yes HW.out.bf 1 (by decide)
  have e1 : ((((((bfs0 2 10).put 0 (1 : Nat) (10 : Nat)).drop 0 (2 + 2 : Nat)).put 1 (11 : Nat) (10 : Nat)).drop 1 (1 + 2 : Nat)).drop 0 (4 + 2 : Nat)).at_ 1 = 14 := rfl
  have e2 : ((((((bfs0 2 10).put 0 (1 : Nat) (10 : Nat)).drop 0 (2 + 2 : Nat)).put 1 (11 : Nat) (10 : Nat)).drop 1 (1 + 2 : Nat)).drop 0 (4 + 2 : Nat)).ws 1 = 7 := rfl
  rw [e1, e2] at q
  clear e1 e2
  go_wp2_with fail
  refine q.mono ?_
  rintro e9 w10 ⟨rfl, b4⟩
  have q2 := top_any ab ag csm _ false _ 1 w10 (HW.out.ar.below b4)
  have e3 : (((tops0 csm).put 1 ((1 : Nat) + (10 : Nat))).put 1 ((11 : Nat) + (10 : Nat))).top 1 = 21 := rfl
  rw [e3] at q2
  have H10 : Hid (Below w.heap.size w w10) := H9.out.trans (b4.mono H9.out.size)
  clear e3 q b4 H9 HW
  go_wp2_with fail
  refine q2.mono ?_
  rintro e9 w11 ⟨rfl, b4⟩
  have H11 : Hid (Below w.heap.size w w11) := H10.out.trans (b4.mono H10.out.size)
  clear q2 b4 H10
  go_wp2
  go_returns
  exact ⟨rfl, H11.out⟩

end Go.Proofs.YtpiemfchjlihfaaDoor

/-
  BufferCount: how many buffers k objects take.
-/
set_option linter.unusedVariables false
set_option maxRecDepth 20000
namespace Go.Proofs.YtpiemfchjlihfaaDoor
open Go.RowKit

theorem among13_any (a n : Int) (h1 : -9223372036854775808 ≤ a) (h2 : a < 9223372036854775808) (hn : 0 < n ∧ n ≤ 1000000) (w : World) :
    Calls Tryd.prog 8 #[.int .i64 a, .int .i64 n] w fun e w' => e = .returned (.int .i64 ((if a < 0 then -(a + 1) else a) % n)) ∧ w = w' := by
  have hz : ¬ n = 0 := by omega
  by_cases h : a < 0
  · rw [if_pos h]
    have hm : (-(a + 1)).tmod n = -(a + 1) % n := Int.tmod_eq_emod_of_nonneg (by omega)
    have hm0 : 0 ≤ -(a + 1) % n := Int.emod_nonneg _ hz
    have hm1 : -(a + 1) % n < n := Int.emod_lt_of_pos _ hn.1
    generalize hM : -(a + 1) % n = M at hm hm0 hm1 ⊢
    clear hM
    go_enter Tryd.func8, Tryd.ntmps8
    go_wp2
    go_ret
    refine ⟨?_, rfl⟩
    first | rfl | (simp [hm])
  · rw [if_neg h]
    have hm : a.tmod n = a % n := Int.tmod_eq_emod_of_nonneg (by omega)
    have hm0 : 0 ≤ a % n := Int.emod_nonneg _ hz
    have hm1 : a % n < n := Int.emod_lt_of_pos _ hn.1
    generalize hM : a % n = M at hm hm0 hm1 ⊢
    clear hM
    go_enter Tryd.func8, Tryd.ntmps8
    go_wp2
    go_ret
    refine ⟨?_, rfl⟩
    first | rfl | (simp [hm])

theorem among13_nat (a : Int) (n : Nat) (h1 : -9223372036854775808 ≤ a) (h2 : a < 9223372036854775808) (hn : 0 < n ∧ n ≤ 1000000) : ∃ v : Nat, v < n ∧ ∀ w : World, Calls Tryd.prog 8 #[.int .i64 a, .int .i64 n] w fun e w' => e = .returned (.int .i64 v) ∧ w = w' := by
  have hz : (n : Int) ≠ 0 := by omega
  have hm0 : 0 ≤ (if a < 0 then -(a + 1) else a) % (n : Int) := Int.emod_nonneg _ hz
  have hm1 : (if a < 0 then -(a + 1) else a) % (n : Int) < n := Int.emod_lt_of_pos _ (by omega)
  obtain ⟨v, hv⟩ : ∃ v : Nat, (if a < 0 then -(a + 1) else a) % (n : Int) = v := ⟨((if a < 0 then -(a + 1) else a) % (n : Int)).toNat, by omega⟩
  refine ⟨v, by omega, fun w => ?_⟩
  rw [← hv]
  exact among13_any a n h1 h2 (by omega) w

abbrev cbig : Cfg := ⟨2000, 64, 64, 64, 0, 1, 1, 50, 1, 2, 1, 0, 0, 1⟩
theorem cbig_ok : cbig.Ok := by constructor <;> decide

/-- i objects of n words each have been laid by thread 0, a buffers, j objects in the last one. -/
structure Cn (n W E i a j : Nat) (x : Tps) (B : Bfs) : Prop where
  ij : (i = 0 ∧ a = 0 ∧ j = 0) ∨ (1 ≤ a ∧ 1 ≤ j ∧ j ≤ E ∧ i + E = a * E + j)
  top : x.t1 = 1 + W + a * W
  bn : B.n = 2
  sz : B.size = W
  w0 : B.ws 0 = if i = 0 then 0 else (W : Int) - j * n
  a0 : 0 < B.ws 0 → B.at_ 0 + W = 1 + W + a * W + j * n
  w1 : B.ws 1 = (W : Int) - n
  a1 : B.at_ 1 = if (W : Int) - n = 0 then 0 else 1 + (n : Int)

theorem Cn.cases {n W E i a j : Nat} {x : Tps} {B : Bfs} (h : Cn n W E i a j x B) (hE : 1 ≤ E) : (j < E ∧ 1 ≤ a ∧ i / E + 1 = a ∧ i % E = j) ∨ (i / E = a ∧ i % E = 0 ∧ (i = 0 ∨ j = E)) := by
  rcases h.ij with ⟨h1, h2, h3⟩ | ⟨h1, h2, h3, h4⟩
  · subst h1 h2 h3
    exact .inr ⟨by simp, by simp, .inl rfl⟩
  · obtain ⟨a', rfl⟩ : ∃ a', a = a' + 1 := ⟨a - 1, by omega⟩
    have h5 : i = a' * E + j := by rw [Nat.add_mul] at h4; omega
    by_cases hj : j = E
    · right
      subst hj
      have h6 : i = (a' + 1) * j := by rw [Nat.add_mul]; omega
      exact ⟨by rw [h6]; exact Nat.mul_div_cancel _ (by omega), by rw [h6]; exact Nat.mul_mod_left _ _, .inr rfl⟩
    · left
      have hj' : j < E := by omega
      refine ⟨hj', h1, ?_, ?_⟩
      · rw [h5, Nat.add_comm (a' * E) j, Nat.add_mul_div_right _ _ (by omega), Nat.div_eq_of_lt hj']; omega
      · rw [h5, Nat.add_comm (a' * E) j, Nat.add_mul_mod_self_right, Nat.mod_eq_of_lt hj']

theorem Cn.used {n W E i a j : Nat} {x : Tps} {B : Bfs} (h : Cn n W E i a j x B) (hE : 1 ≤ E) : (i + E - 1) / E = a := by
  rcases h.ij with ⟨h1, h2, h3⟩ | ⟨h1, h2, h3, h4⟩
  · subst h1 h2
    exact Nat.div_eq_of_lt (by omega)
  · have h5 : i + E - 1 = (j - 1) + a * E := by omega
    rw [h5, Nat.add_mul_div_right _ _ (by omega), Nat.div_eq_of_lt (by omega)]
    omega

theorem Cn.le {n W E i a j : Nat} {x : Tps} {B : Bfs} (h : Cn n W E i a j x B) (hE : 1 ≤ E) : a ≤ i := by
  rcases h.ij with ⟨h1, h2, h3⟩ | ⟨h1, h2, h3, h4⟩
  · omega
  · obtain ⟨a', rfl⟩ : ∃ a', a = a' + 1 := ⟨a - 1, by omega⟩
    have h5 : i = a' * E + j := by rw [Nat.add_mul] at h4; omega
    have h6 : a' * 1 ≤ a' * E := Nat.mul_le_mul_left _ hE
    omega

/-- The next object goes into the rest. -/
theorem Cn.rest {n W E i a j : Nat} {x : Tps} {B : Bfs} (h : Cn n W E i a j x B) (hj : j < E) (ha : 1 ≤ a) (hE : E * n ≤ W) (hn : 2 ≤ n) : (n : Int) ≤ B.ws 0 ∧ B.at_ 0 = (1 + W + (a - 1) * W + j * n : Nat) ∧ Cn n W E (i + 1) a (j + 1) x (B.drop 0 n) := by
  have hi : i ≠ 0 := by
    rcases h.ij with ⟨h1, h2, h3⟩ | ⟨h1, h2, h3, h4⟩
    · omega
    · have : E ≤ a * E := Nat.le_mul_of_pos_left _ (by omega)
      omega
  have h0 := h.w0
  rw [if_neg hi] at h0
  have h1 : (j + 1) * n ≤ E * n := Nat.mul_le_mul_right _ hj
  have h1' : (j + 1) * n = j * n + n := by rw [Nat.add_mul]; omega
  have h2 : ((j * n : Nat) : Int) = (j : Int) * n := by simp
  have h3 : ((a * W : Nat) : Int) = (a : Int) * W := by simp
  obtain ⟨a', rfl⟩ : ∃ a', a = a' + 1 := ⟨a - 1, by omega⟩
  have h4 : (a' + 1) * W = a' * W + W := by rw [Nat.add_mul]; omega
  have h5 : a' + 1 - 1 = a' := by omega
  have hws : (n : Int) ≤ B.ws 0 := by rw [h0]; omega
  have hat := h.a0 (by omega)
  have hq : B.at_ 0 = (1 + W + a' * W + j * n : Nat) := by rw [← h3, ← h2, h4] at hat; omega
  refine ⟨hws, by rw [h5]; exact hq, ?_, h.top, h.bn, h.sz, ?_, ?_, h.w1, h.a1⟩
  · right
    rcases h.ij with ⟨h1, h2, h3⟩ | ⟨h1, h2, h3, h4⟩ <;> omega
  · rw [if_neg (by omega)]
    show B.ws 0 - n = _
    rw [h0]
    have : (((j + 1 : Nat) : Int)) * n = (j : Int) * n + n := by rw [Int.natCast_add, Int.add_mul]; omega
    omega
  · intro hp
    have hp' : 0 < B.ws 0 - (n : Int) := hp
    have e : (B.drop 0 n).at_ 0 = if B.ws 0 - (n : Int) = 0 then 0 else B.at_ 0 + n := Bfs.put_at _ _ _ _
    rw [e, if_neg (by omega)]
    have : (((j + 1 : Nat) : Int)) * n = (j : Int) * n + n := by rw [Int.natCast_add, Int.add_mul]; omega
    omega

/-- The next object takes a new buffer. -/
theorem Cn.new {n W E i a j : Nat} {x : Tps} {B : Bfs} (h : Cn n W E i a j x B) (hj : i = 0 ∨ j = E) (hE1 : 1 ≤ E) (hE : W < E * n + n) (hn : 2 ≤ n) (hW : n ≤ W) : ¬ (n : Int) ≤ B.ws 0 ∧ x.t1 = (1 + W + a * W : Nat) ∧ Cn n W E (i + 1) (a + 1) 1 (x.put 1 ((1 + W + a * W : Nat) + (W : Nat))) ((B.put 0 (1 + W + a * W : Nat) W).drop 0 n) := by
  have h2 : ((j * n : Nat) : Int) = (j : Int) * n := by simp
  have h3 : ((a * W : Nat) : Int) = (a : Int) * W := by simp
  have h4 : (((a + 1 : Nat) : Int)) * W = (a : Int) * W + W := by rw [Int.natCast_add, Int.add_mul]; omega
  refine ⟨?_, by rw [h.top, ← h3]; omega, ?_, ?_, h.bn, h.sz, ?_, ?_, h.w1, h.a1⟩
  · rw [h.w0]
    rcases hj with e | e
    · rw [if_pos e]; omega
    · by_cases e0 : i = 0
      · rw [if_pos e0]; omega
      · rw [if_neg e0, ← h2, e]; omega
  · right
    refine ⟨by omega, by omega, hE1, ?_⟩
    rcases h.ij with ⟨q1, q2, q3⟩ | ⟨q1, q2, q3, q4⟩
    · subst q1 q2; simp; omega
    · have : i ≠ 0 := by
        intro e0
        rcases hj with e | e
        · subst e0
          have : E ≤ a * E := Nat.le_mul_of_pos_left _ (by omega)
          omega
        · subst e0
          have : E ≤ a * E := Nat.le_mul_of_pos_left _ (by omega)
          omega
      have e : j = E := by omega
      rw [Nat.add_mul]; omega
  · show ((1 + W + a * W : Nat) : Int) + (W : Nat) = _
    rw [h4, ← h3]; omega
  · rw [if_neg (by omega)]
    show (W : Int) - n = _
    simp
  · intro hp
    have hp' : 0 < (W : Int) - (n : Int) := hp
    have e : ((B.put 0 (1 + W + a * W : Nat) W).drop 0 n).at_ 0 = if (W : Int) - (n : Int) = 0 then 0 else ((1 + W + a * W : Nat) : Int) + n := Bfs.put_at _ _ _ _
    rw [e, if_neg (by omega), h4, ← h3]
    omega

end Go.Proofs.YtpiemfchjlihfaaDoor

