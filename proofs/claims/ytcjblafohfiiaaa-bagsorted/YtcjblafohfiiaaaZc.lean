/-
  BagFrozen's closures.
-/
import Derived.Test.YtcjblafohfiiaaaWk
import Derived.Test.YtcjblafohfiiaaaWn
set_option linter.unusedVariables false
namespace Go.Proofs.Ytcjblafohfiiaaa
open Go.RowKit Go.Shelf

/-- The variables that a closure shares with its maker: ok, n, l, the container's pointer, and more. -/
structure Vs (okB nB lB cB mB tc k : Nat) (lv cv : Value) (more : Int) (W : World) : Prop where
  ok : Boxed W okB 4 (.bool true)
  n : Boxed W nB 3 (.int .i64 k)
  l : Boxed W lB 22 lv
  c : Boxed W cB tc cv
  m : Boxed W mB 3 (.int .i64 more)
  nm : nB ≠ mB
  t1 : tc ≠ 4
  t2 : tc ≠ 3

theorem Vs.touch {okB nB lB cB mB tc k : Nat} {lv cv : Value} {more : Int} {W W' : World} {F : List Nat} (h : Vs okB nB lB cB mB tc k lv cv more W) (ht : Touch F W W') (hF : ∀ q, q ∈ [okB, nB, lB, cB, mB] → q ∉ F) : Vs okB nB lB cB mB tc k lv cv more W' :=
  ⟨box_touch h.ok ht (hF _ (by simp)), box_touch h.n ht (hF _ (by simp)), box_touch h.l ht (hF _ (by simp)), box_touch h.c ht (hF _ (by simp)), box_touch h.m ht (hF _ (by simp)), h.nm, h.t1, h.t2⟩

theorem Vs.setOk {okB nB lB cB mB tc k : Nat} {lv cv : Value} {more : Int} {W : World} (h : Vs okB nB lB cB mB tc k lv cv more W) : Vs okB nB lB cB mB tc k lv cv more (W.setCell ⟨okB, 0, none⟩ (.bool true)) :=
  ⟨h.ok.set _, h.n.other (boxed_ne h.n h.ok (by decide)) _, h.l.other (boxed_ne h.l h.ok (by decide)) _, h.c.other (boxed_ne h.c h.ok h.t1) _, h.m.other (boxed_ne h.m h.ok (by decide)) _, h.nm, h.t1, h.t2⟩

theorem Vs.setN {okB nB lB cB mB tc k : Nat} {lv cv : Value} {more : Int} {W : World} (h : Vs okB nB lB cB mB tc k lv cv more W) (k' : Nat) : Vs okB nB lB cB mB tc k' lv cv more (W.setCell ⟨nB, 0, none⟩ (.int .i64 k')) :=
  ⟨h.ok.other (boxed_ne h.ok h.n (by decide)) _, h.n.set _, h.l.other (boxed_ne h.l h.n (by decide)) _, h.c.other (boxed_ne h.c h.n h.t2) _, h.m.other h.nm.symm _, h.nm, h.t1, h.t2⟩

theorem Vs.lt {okB nB lB cB mB tc k : Nat} {lv cv : Value} {more : Int} {W : World} (h : Vs okB nB lB cB mB tc k lv cv more W) : ∀ q, q ∈ [okB, nB, lB, cB, mB] → q < W.heap.size := by
  intro q hq
  simp at hq
  rcases hq with rfl | rfl | rfl | rfl | rfl
  · exact h.ok.lt
  · exact h.n.lt
  · exact h.l.lt
  · exact h.c.lt
  · exact h.m.lt

theorem away {n : Nat} {F F' B : List Nat} (h : ∀ q, q ∈ B → q ∉ F) (hn : Newer n F F') (hB : ∀ q, q ∈ B → q < n) : ∀ q, q ∈ B → q ∉ F' := fun q hq hm => by
  rcases hn q hm with h1 | h1
  · exact h q hq h1
  · have := hB q hq; omega

theorem Touch.two {a b : Nat} {F : List Nat} {W W1 W2 : World} (h1 : Touch [a, b] W W1) (h2 : Touch F W1 W2) : Touch (a :: b :: F) W W2 :=
  (h1.mono (fun q hq => .inl (by simp at hq; rcases hq with h | h <;> simp [h]))).trans (h2.mono (fun q hq => .inl (by simp [hq])))

set_option maxHeartbeats 2000000 in
theorem fz1_core (okB nB lB cB mB bs base k N b off cap : Nat) (x more : Int) (xs : List Int) (F : List Nat) (W : World) (h : Vs okB nB lB cB mB 25 k (.slice (some ⟨b, off, none⟩) xs.length cap) (.pointer (some ⟨bs, 0, none⟩)) more W)
    (hst : StkW W base bs N F) (hF : ∀ q, q ∈ [okB, nB, lB, cB, mB] → q ∉ F) (hbase : base ≤ W.heap.size) (hk : k < xs.length) (hlen : xs.length < 1000) (hN : N + 2 < 1000000) (hc : W.cell? ⟨b, off + (xs.length - 1 - k), none⟩ = some (.int .i64 x)) :
    Calls Try.prog 28 (#[.int .i64 x] ++ #[.pointer (some ⟨okB, 0, none⟩), .pointer (some ⟨nB, 0, none⟩), .pointer (some ⟨lB, 0, none⟩), .pointer (some ⟨cB, 0, none⟩), .pointer (some ⟨mB, 0, none⟩)]) W fun e W' => e = .returned (.bool true) ∧
      Vs okB nB lB cB mB 25 (k + 1) (.slice (some ⟨b, off, none⟩) xs.length cap) (.pointer (some ⟨bs, 0, none⟩)) more W' ∧ ∃ F', StkW W' base bs (N + 2) F' ∧ Touch (okB :: nB :: F) W W' ∧ Newer W.heap.size F F' := by
  have n_o : nB ≠ okB := boxed_ne h.n h.ok (by decide)
  have c_o : cB ≠ okB := boxed_ne h.c h.ok h.t1
  have c_n : cB ≠ nB := boxed_ne h.c h.n h.t2
  have hki : (k : Int) < xs.length := by omega
  have hbd : (xs.length : Int) - 1 - k < xs.length := by omega
  have hbd0 : (0 : Int) ≤ (xs.length : Int) - 1 - k := by omega
  have h0o := h.ok.cell
  have h0f := h.ok.frozen
  have h0n := h.n.cell
  have h0l := h.l.cell
  have h0c := h.c.cell
  have f1n := h.setOk.n.frozen
  have h2 := h.setOk.setN (k + 1)
  have e2 : Hid (Value.int .i64 ((k + 1 : Nat) : Int) = .int .i64 ((k : Int) + 1)) := by show _ = _; simp
  rw [e2.out] at h2
  have t2 : Touch [okB, nB] W ((W.setCell ⟨okB, 0, none⟩ (.bool true)).setCell ⟨nB, 0, none⟩ (.int .i64 ((k : Int) + 1))) := (Touch.setCell _ _ _ (by simp)).trans (Touch.setCell _ _ _ (by simp))
  have hst2 := hst.keep t2 (fun q hq hm => hF q (by simp at hm ⊢; omega) hq)
  have hpop := popW bs base N F _ hst2 (by omega)
  have H2 : Hid (Vs okB nB lB cB mB 25 (k + 1) (.slice (some ⟨b, off, none⟩) xs.length cap) (.pointer (some ⟨bs, 0, none⟩)) more ((W.setCell ⟨okB, 0, none⟩ (.bool true)).setCell ⟨nB, 0, none⟩ (.int .i64 ((k : Int) + 1)))) := h2
  have z2 : Hid (((W.setCell ⟨okB, 0, none⟩ (.bool true)).setCell ⟨nB, 0, none⟩ (.int .i64 ((k : Int) + 1))).heap.size = W.heap.size) := by show _ = _; simp [World.setCell]
  have HF : Hid (∀ q, q ∈ [okB, nB, lB, cB, mB] → q ∉ F) := hF
  have hlt := h.lt
  have HL : Hid (∀ q, q ∈ [okB, nB, lB, cB, mB] → q < W.heap.size) := hlt
  clear h2 hF hlt hst2
  simp only [List.append_toArray, List.nil_append, List.cons_append]
  go_enter Try.func28, Try.ntmps28
  go_wp2_with fail
  refine hpop.mono ?_
  rintro e w3 ⟨⟨r, rfl⟩, hst3, ht3⟩
  have h3 := H2.out.touch ht3 HF.out
  have t3 : Touch (okB :: nB :: F) W w3 := t2.two ht3
  have c3n := h3.n.cell
  have c3c := h3.c.cell
  have c3m := h3.m.cell
  have c3o := h3.ok.cell
  simp only [e2.out] at c3n
  have z3 : W.heap.size ≤ w3.heap.size := t3.size
  clear hpop h0o h0f h0n h0l h0c f1n hst t2 ht3 hc
  have hps := pushW bs base N more F w3 hst3 (by omega) (by omega)
  have H3 : Hid (Vs okB nB lB cB mB 25 (k + 1) (.slice (some ⟨b, off, none⟩) xs.length cap) (.pointer (some ⟨bs, 0, none⟩)) more w3) := h3
  clear h3 H2 h
  go_wp2_with fail
  rotate_left
  · go_ret
    obtain ⟨ys, hy, hyn⟩ := hst3
    exact ⟨rfl, H3.out, F, ⟨ys, hy, by omega⟩, t3, Newer.refl _ _⟩
  · refine hps.mono ?_
    rintro e w4 ⟨⟨r4, rfl⟩, F4, hst4, ht4, hn4⟩
    have h4 := H3.out.touch ht4 HF.out
    have hF4 := away HF.out hn4 (fun q hq => Nat.lt_of_lt_of_le (HL.out q hq) z3)
    have t4 : Touch (okB :: nB :: F) W w4 := t3.trans (ht4.mono (fun q hq => .inl (by simp [hq])))
    have n4 : Newer W.heap.size F F4 := fun q hq => (hn4 q hq).imp_right (fun h => Nat.le_trans z3 h)
    have z4 : W.heap.size ≤ w4.heap.size := t4.size
    have hps5 := pushW bs base (N + 1) more F4 w4 hst4 (by omega) (by omega)
    have c4c := h4.c.cell
    have c4m := h4.m.cell
    have c4o := h4.ok.cell
    have H4 : Hid (Vs okB nB lB cB mB 25 (k + 1) (.slice (some ⟨b, off, none⟩) xs.length cap) (.pointer (some ⟨bs, 0, none⟩)) more w4) := h4
    have HF4 : Hid (∀ q, q ∈ [okB, nB, lB, cB, mB] → q ∉ F4) := hF4
    clear h4 hF4 hps hst3 hst4 hn4 ht4 c3n c3c c3m c3o H3
    go_wp2_with fail
    refine hps5.mono ?_
    rintro e w5 ⟨⟨r5, rfl⟩, F5, hst5, ht5, hn5⟩
    have h5 := H4.out.touch ht5 HF4.out
    have t5 : Touch (okB :: nB :: F) W w5 := t4.then ht5 (fun q hq => (n4 q hq).imp_left (fun h => by simp [h]))
    have n5 : Newer W.heap.size F F5 := fun q hq => by
      rcases hn5 q hq with h | h
      · exact n4 q h
      · exact .inr (Nat.le_trans z4 h)
    have c5o := h5.ok.cell
    have H5 : Hid (Vs okB nB lB cB mB 25 (k + 1) (.slice (some ⟨b, off, none⟩) xs.length cap) (.pointer (some ⟨bs, 0, none⟩)) more w5) := h5
    clear h5 hps5 c4c c4m c4o H4
    go_wp2
    go_ret
    exact ⟨rfl, H5.out, F5, hst5, t5, n5⟩

set_option maxHeartbeats 2000000 in
theorem fz2_core (okB nB lB cB mB bq base k N b off cap : Nat) (x more : Int) (xs : List Int) (F : List Nat) (W : World) (h : Vs okB nB lB cB mB 29 k (.slice (some ⟨b, off, none⟩) xs.length cap) (.pointer (some ⟨bq, 0, none⟩)) more W)
    (hst : QueW W base bq N F) (hF : ∀ q, q ∈ [okB, nB, lB, cB, mB] → q ∉ F) (hbase : base ≤ W.heap.size) (hk : k < xs.length) (hlen : xs.length < 1000) (hN : N + 2 < 1000000) (hc : W.cell? ⟨b, off + k, none⟩ = some (.int .i64 x)) :
    Calls Try.prog 29 (#[.int .i64 x] ++ #[.pointer (some ⟨okB, 0, none⟩), .pointer (some ⟨nB, 0, none⟩), .pointer (some ⟨lB, 0, none⟩), .pointer (some ⟨cB, 0, none⟩), .pointer (some ⟨mB, 0, none⟩)]) W fun e W' => e = .returned (.bool true) ∧
      Vs okB nB lB cB mB 29 (k + 1) (.slice (some ⟨b, off, none⟩) xs.length cap) (.pointer (some ⟨bq, 0, none⟩)) more W' ∧ ∃ F', QueW W' base bq (N + 2) F' ∧ Touch (okB :: nB :: F) W W' ∧ Newer W.heap.size F F' := by
  have n_o : nB ≠ okB := boxed_ne h.n h.ok (by decide)
  have c_o : cB ≠ okB := boxed_ne h.c h.ok h.t1
  have c_n : cB ≠ nB := boxed_ne h.c h.n h.t2
  have hki : (k : Int) < xs.length := by omega
  have h0o := h.ok.cell
  have h0f := h.ok.frozen
  have h0n := h.n.cell
  have h0l := h.l.cell
  have h0c := h.c.cell
  have f1n := h.setOk.n.frozen
  have h2 := h.setOk.setN (k + 1)
  have e2 : Hid (Value.int .i64 ((k + 1 : Nat) : Int) = .int .i64 ((k : Int) + 1)) := by show _ = _; simp
  rw [e2.out] at h2
  have t2 : Touch [okB, nB] W ((W.setCell ⟨okB, 0, none⟩ (.bool true)).setCell ⟨nB, 0, none⟩ (.int .i64 ((k : Int) + 1))) := (Touch.setCell _ _ _ (by simp)).trans (Touch.setCell _ _ _ (by simp))
  have hst2 := hst.keep t2 (fun q hq hm => hF q (by simp at hm ⊢; omega) hq)
  have hpop := takeW bq base N F _ hst2 (by omega)
  have H2 : Hid (Vs okB nB lB cB mB 29 (k + 1) (.slice (some ⟨b, off, none⟩) xs.length cap) (.pointer (some ⟨bq, 0, none⟩)) more ((W.setCell ⟨okB, 0, none⟩ (.bool true)).setCell ⟨nB, 0, none⟩ (.int .i64 ((k : Int) + 1)))) := h2
  have z2 : Hid (((W.setCell ⟨okB, 0, none⟩ (.bool true)).setCell ⟨nB, 0, none⟩ (.int .i64 ((k : Int) + 1))).heap.size = W.heap.size) := by show _ = _; simp [World.setCell]
  have HF : Hid (∀ q, q ∈ [okB, nB, lB, cB, mB] → q ∉ F) := hF
  have hlt := h.lt
  have HL : Hid (∀ q, q ∈ [okB, nB, lB, cB, mB] → q < W.heap.size) := hlt
  clear h2 hF hlt hst2
  simp only [List.append_toArray, List.nil_append, List.cons_append]
  go_enter Try.func29, Try.ntmps29
  go_wp2_with fail
  refine hpop.mono ?_
  rintro e w3 ⟨⟨r, rfl⟩, hst3, ht3⟩
  have h3 := H2.out.touch ht3 HF.out
  have t3 : Touch (okB :: nB :: F) W w3 := t2.two ht3
  have c3n := h3.n.cell
  have c3c := h3.c.cell
  have c3m := h3.m.cell
  have c3o := h3.ok.cell
  simp only [e2.out] at c3n
  have z3 : W.heap.size ≤ w3.heap.size := t3.size
  clear hpop h0o h0f h0n h0l h0c f1n hst t2 ht3 hc
  have hps := putW bq base N more F w3 hst3 (by omega) (by omega)
  have H3 : Hid (Vs okB nB lB cB mB 29 (k + 1) (.slice (some ⟨b, off, none⟩) xs.length cap) (.pointer (some ⟨bq, 0, none⟩)) more w3) := h3
  clear h3 H2 h
  go_wp2_with fail
  refine hps.mono ?_
  rintro e w4 ⟨⟨r4, rfl⟩, F4, hst4, ht4, hn4⟩
  have h4 := H3.out.touch ht4 HF.out
  have hF4 := away HF.out hn4 (fun q hq => Nat.lt_of_lt_of_le (HL.out q hq) z3)
  have t4 : Touch (okB :: nB :: F) W w4 := t3.trans (ht4.mono (fun q hq => .inl (by simp [hq])))
  have n4 : Newer W.heap.size F F4 := fun q hq => (hn4 q hq).imp_right (fun h => Nat.le_trans z3 h)
  have z4 : W.heap.size ≤ w4.heap.size := t4.size
  have hps5 := putW bq base (N + 1) more F4 w4 hst4 (by omega) (by omega)
  have c4c := h4.c.cell
  have c4m := h4.m.cell
  have c4o := h4.ok.cell
  have H4 : Hid (Vs okB nB lB cB mB 29 (k + 1) (.slice (some ⟨b, off, none⟩) xs.length cap) (.pointer (some ⟨bq, 0, none⟩)) more w4) := h4
  have HF4 : Hid (∀ q, q ∈ [okB, nB, lB, cB, mB] → q ∉ F4) := hF4
  clear h4 hF4 hps hst3 hst4 hn4 ht4 c3n c3c c3m c3o H3
  go_wp2_with fail
  refine hps5.mono ?_
  rintro e w5 ⟨⟨r5, rfl⟩, F5, hst5, ht5, hn5⟩
  have h5 := H4.out.touch ht5 HF4.out
  have t5 : Touch (okB :: nB :: F) W w5 := t4.then ht5 (fun q hq => (n4 q hq).imp_left (fun h => by simp [h]))
  have n5 : Newer W.heap.size F F5 := fun q hq => by
    rcases hn5 q hq with h | h
    · exact n4 q h
    · exact .inr (Nat.le_trans z4 h)
  have c5o := h5.ok.cell
  have H5 : Hid (Vs okB nB lB cB mB 29 (k + 1) (.slice (some ⟨b, off, none⟩) xs.length cap) (.pointer (some ⟨bq, 0, none⟩)) more w5) := h5
  clear h5 hps5 c4c c4m c4o H4
  go_wp2
  go_ret
  exact ⟨rfl, H5.out, F5, hst5, t5, n5⟩

set_option maxHeartbeats 2000000 in
theorem fz3_core (okB nB lB cB mB bt base k N cap : Nat) (a : Option Addr) (more : Int) (xs : List Int) (F : List Nat) (W : World) (h : Vs okB nB lB cB mB 38 k (.slice a xs.length cap) (.pointer (some ⟨bt, 0, none⟩)) more W)
    (hst : ITabW W base bt N F) (hF : ∀ q, q ∈ [okB, nB, lB, cB, mB] → q ∉ F) (hbase : base ≤ W.heap.size) (hk : k < xs.length) (hlen : xs.length < 1000) (hN : N + 2 < 1000000) :
    Calls Try.prog 30 (#[.int .i64 k, .int .u64 ((k : Int) + 7)] ++ #[.pointer (some ⟨okB, 0, none⟩), .pointer (some ⟨nB, 0, none⟩), .pointer (some ⟨lB, 0, none⟩), .pointer (some ⟨cB, 0, none⟩)]) W fun e W' => e = .returned (.bool true) ∧
      Vs okB nB lB cB mB 38 (k + 1) (.slice a xs.length cap) (.pointer (some ⟨bt, 0, none⟩)) more W' ∧ ∃ F', ITabW W' base bt (N + 2) F' ∧ Touch (okB :: nB :: F) W W' ∧ Newer W.heap.size F F' := by
  have n_o : nB ≠ okB := boxed_ne h.n h.ok (by decide)
  have c_o : cB ≠ okB := boxed_ne h.c h.ok h.t1
  have c_n : cB ≠ nB := boxed_ne h.c h.n h.t2
  have hki : (k : Int) < xs.length := by omega
  have h0o := h.ok.cell
  have h0f := h.ok.frozen
  have h0n := h.n.cell
  have h0l := h.l.cell
  have h0c := h.c.cell
  have f1n := h.setOk.n.frozen
  have h2 := h.setOk.setN (k + 1)
  have e2 : Hid (Value.int .i64 ((k + 1 : Nat) : Int) = .int .i64 ((k : Int) + 1)) := by show _ = _; simp
  rw [e2.out] at h2
  have t2 : Touch [okB, nB] W ((W.setCell ⟨okB, 0, none⟩ (.bool true)).setCell ⟨nB, 0, none⟩ (.int .i64 ((k : Int) + 1))) := (Touch.setCell _ _ _ (by simp)).trans (Touch.setCell _ _ _ (by simp))
  have hst2 := hst.keep t2 (fun q hq hm => hF q (by simp at hm ⊢; omega) hq)
  have hpop := dropW bt base N ((k : Int) + 1) F _ hst2 (by omega)
  have H2 : Hid (Vs okB nB lB cB mB 38 (k + 1) (.slice a xs.length cap) (.pointer (some ⟨bt, 0, none⟩)) more ((W.setCell ⟨okB, 0, none⟩ (.bool true)).setCell ⟨nB, 0, none⟩ (.int .i64 ((k : Int) + 1)))) := h2
  have z2 : Hid (((W.setCell ⟨okB, 0, none⟩ (.bool true)).setCell ⟨nB, 0, none⟩ (.int .i64 ((k : Int) + 1))).heap.size = W.heap.size) := by show _ = _; simp [World.setCell]
  have HF : Hid (∀ q, q ∈ [okB, nB, lB, cB, mB] → q ∉ F) := hF
  have hlt := h.lt
  have HL : Hid (∀ q, q ∈ [okB, nB, lB, cB, mB] → q < W.heap.size) := hlt
  clear h2 hF hlt hst2
  simp only [List.append_toArray, List.nil_append, List.cons_append]
  go_enter Try.func30, Try.ntmps30
  go_wp2_with fail
  refine hpop.mono ?_
  rintro e w3 ⟨⟨r, rfl⟩, hst3, ht3⟩
  have h3 := H2.out.touch ht3 HF.out
  have t3 : Touch (okB :: nB :: F) W w3 := t2.two ht3
  have c3n := h3.n.cell
  have c3c := h3.c.cell
  have c3m := h3.m.cell
  have c3o := h3.ok.cell
  simp only [e2.out] at c3n
  have z3 : W.heap.size ≤ w3.heap.size := t3.size
  clear hpop h0o h0f h0n h0l h0c f1n hst t2 ht3
  have hps := setW bt base N ((k : Int) + 1 + 1) 1 F w3 hst3 (by omega) (by omega)
  have H3 : Hid (Vs okB nB lB cB mB 38 (k + 1) (.slice a xs.length cap) (.pointer (some ⟨bt, 0, none⟩)) more w3) := h3
  clear h3 H2 h
  go_wp2_with fail
  refine hps.mono ?_
  rintro e w4 ⟨⟨r4, rfl⟩, F4, hst4, ht4, hn4⟩
  have h4 := H3.out.touch ht4 HF.out
  have hF4 := away HF.out hn4 (fun q hq => Nat.lt_of_lt_of_le (HL.out q hq) z3)
  have t4 : Touch (okB :: nB :: F) W w4 := t3.trans (ht4.mono (fun q hq => .inl (by simp [hq])))
  have n4 : Newer W.heap.size F F4 := fun q hq => (hn4 q hq).imp_right (fun h => Nat.le_trans z3 h)
  have z4 : W.heap.size ≤ w4.heap.size := t4.size
  have hps5 := setW bt base (N + 1) (-((k : Int) + 1)) 2 F4 w4 hst4 (by omega) (by omega)
  have c4c := h4.c.cell
  have c4n := h4.n.cell
  simp only [e2.out] at c4n
  have c4o := h4.ok.cell
  have H4 : Hid (Vs okB nB lB cB mB 38 (k + 1) (.slice a xs.length cap) (.pointer (some ⟨bt, 0, none⟩)) more w4) := h4
  have HF4 : Hid (∀ q, q ∈ [okB, nB, lB, cB, mB] → q ∉ F4) := hF4
  clear h4 hF4 hps hst3 hst4 hn4 ht4 c3n c3c c3m c3o H3
  go_wp2_with fail
  refine hps5.mono ?_
  rintro e w5 ⟨⟨r5, rfl⟩, F5, hst5, ht5, hn5⟩
  have h5 := H4.out.touch ht5 HF4.out
  have t5 : Touch (okB :: nB :: F) W w5 := t4.then ht5 (fun q hq => (n4 q hq).imp_left (fun h => by simp [h]))
  have n5 : Newer W.heap.size F F5 := fun q hq => by
    rcases hn5 q hq with h | h
    · exact n4 q h
    · exact .inr (Nat.le_trans z4 h)
  have c5o := h5.ok.cell
  have H5 : Hid (Vs okB nB lB cB mB 38 (k + 1) (.slice a xs.length cap) (.pointer (some ⟨bt, 0, none⟩)) more w5) := h5
  clear h5 hps5 c4c c4n c4o H4
  go_wp2
  go_ret
  exact ⟨rfl, H5.out, F5, hst5, t5, n5⟩

end Go.Proofs.Ytcjblafohfiiaaa
