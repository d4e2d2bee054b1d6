/-
  BagQueues: two queues of numbers, every call.
-/
import Derived.Test.YtcjblafohfiiaabGreatRu
import Derived.Test.YtcjblafohfiiaabGreatXQa
set_option linter.unusedVariables false
namespace Go.Proofs.YtcjblafohfiiaabGreat.Tx
open Go.RowKit Go.Shelf

theorem PQ.keep {W W' : World} {base bs br N : Nat} {m : Int} {xs : List ByteArray} {F G : List Nat} (h : PQ W base bs br N m xs F) (ht : Touch G W W') (ha : Apart F G) : PQ W' base bs br N m xs F := by
  obtain ⟨Fs, Fr, hs, hn, hap, rfl⟩ := h
  exact ⟨Fs, Fr, hs.keep ht (fun k hk => ha k (by simp [hk])), hn.keep ht (fun k hk => ha k (by simp [hk])), hap, rfl⟩

theorem PQ.mem {W : World} {base bs br N : Nat} {m : Int} {xs : List ByteArray} {F : List Nat} (h : PQ W base bs br N m xs F) : ∀ k, k ∈ F → base ≤ k ∧ k < W.heap.size := by
  obtain ⟨Fs, Fr, hs, hn, hap, rfl⟩ := h
  intro k hk
  rcases List.mem_append.1 hk with h | h
  · exact hs.mem k h
  · exact hn.mem k h

theorem PQ.start {W : World} {base bs br : Nat} {m : Int} (hs : W.heap[bs]? = some (oTqu m)) (hr : W.heap[br]? = some (oTxs m)) (h1 : base ≤ bs) (h2 : base ≤ br) (hne : bs ≠ br) : PQ W base bs br 0 m [] [bs, br] := by
  refine ⟨[bs], [br], ⟨.slice none 0 0, [], 0, hs, h1, World.ownsRow_nil _ _ _ _, Nat.le_refl _, rfl, Nat.le_refl _, rfl⟩, ⟨.slice none 0 0, hr, h2, World.ownsRow_nil _ _ _ _, rfl⟩, ?_, rfl⟩
  intro k hk hk2
  simp at hk hk2
  omega

/-- The two stacks, the desk. -/
structure In2 (w : World) (bs0 br0 bs1 br1 N0 N1 : Nat) (m0 m1 : Int) (k : Nat) (W : World) (xs0 xs1 : List ByteArray) (F0 F1 : List Nat) : Prop where
  p0 : PQ W w.heap.size bs0 br0 N0 m0 xs0 F0
  p1 : PQ W w.heap.size bs1 br1 N1 m1 xs1 F1
  ap : Apart F0 F1
  l0 : xs0.length ≤ k
  l1 : xs1.length ≤ k
  k0 : N0 ≤ k
  k1 : N1 ≤ k
  c0 : W.cell? ⟨w.heap.size, 4, none⟩ = some (.pointer (some ⟨bs0, 0, none⟩))
  c1 : W.cell? ⟨w.heap.size, 5, none⟩ = some (.pointer (some ⟨bs1, 0, none⟩))
  r0 : W.cell? ⟨w.heap.size, 14, none⟩ = some (.pointer (some ⟨br0, 0, none⟩))
  r1 : W.cell? ⟨w.heap.size, 15, none⟩ = some (.pointer (some ⟨br1, 0, none⟩))
  n0 : w.heap.size ∉ F0
  n1 : w.heap.size ∉ F1
  bel : Below w.heap.size w W

def InvQ (w : World) (k : Nat) (W : World) : Prop := ∃ bs0 br0 bs1 br1 N0 N1 m0 m1 xs0 xs1 F0 F1, In2 w bs0 br0 bs1 br1 N0 N1 m0 m1 k W xs0 xs1 F0 F1

theorem touch_cell {F : List Nat} {W W' : World} {p : Addr} {v : Value} (ht : Touch F W W') (hn : p.block ∉ F) (h : W.cell? p = some v) : W'.cell? p = some v := by
  rw [World.cell?_of_block (w := W) (ht.block p.block (World.block_lt_of_cell? _ _ h) hn)]
  exact h

theorem In2.alloc {w : World} {bs0 br0 bs1 br1 N0 N1 : Nat} {m0 m1 : Int} {k : Nat} {W : World} {xs0 xs1 : List ByteArray} {F0 F1 : List Nat} (h : In2 w bs0 br0 bs1 br1 N0 N1 m0 m1 k W xs0 xs1 F0 F1) (o : Obj) : In2 w bs0 br0 bs1 br1 N0 N1 m0 m1 k (W.alloc o) xs0 xs1 F0 F1 := by
  have ta : Touch [] W (W.alloc o) := Touch.alloc _ _ _
  exact ⟨h.p0.keep ta (by intro k _ h; simp at h), h.p1.keep ta (by intro k _ h; simp at h), h.ap, h.l0, h.l1, h.k0, h.k1, touch_cell ta (by simp) h.c0, touch_cell ta (by simp) h.c1, touch_cell ta (by simp) h.r0, touch_cell ta (by simp) h.r1, h.n0, h.n1, Below.alloc h.bel h.bel.size o⟩

theorem In2.step0 {w : World} {bs0 br0 bs1 br1 N0 N1 : Nat} {m0 m1 : Int} {k N0' : Nat} {W W' : World} {xs0 xs1 xs0' : List ByteArray} {F0 F1 F0' : List Nat} (h : In2 w bs0 br0 bs1 br1 N0 N1 m0 m1 k W xs0 xs1 F0 F1)
    (hl : xs0'.length ≤ xs0.length + 1) (hN : N0' ≤ N0 + 1) (hp : PQ W' w.heap.size bs0 br0 N0' m0 xs0' F0') (ht : Touch F0 W W') (hn : Newer W.heap.size F0 F0') : In2 w bs0 br0 bs1 br1 N0' N1 m0 m1 (k + 1) W' xs0' xs1 F0' F1 := by
  have hd : w.heap.size < W.heap.size := World.block_lt_of_cell? _ _ h.c0
  refine ⟨hp, h.p1.keep ht h.ap.symm, h.ap.newer hn (fun k hk => (h.p1.mem k hk).2), by have := h.l0; omega, by have := h.l1; omega, by have := h.k0; omega, by have := h.k1; omega, touch_cell ht h.n0 h.c0, touch_cell ht h.n0 h.c1, touch_cell ht h.n0 h.r0, touch_cell ht h.n0 h.r1, fun hm => ?_, h.n1, h.bel.trans (ht.below h.bel.size (fun k hk => (h.p0.mem k hk).1))⟩
  rcases hn _ hm with h1 | h1
  · exact h.n0 h1
  · omega

theorem In2.step1 {w : World} {bs0 br0 bs1 br1 N0 N1 : Nat} {m0 m1 : Int} {k N1' : Nat} {W W' : World} {xs0 xs1 xs1' : List ByteArray} {F0 F1 F1' : List Nat} (h : In2 w bs0 br0 bs1 br1 N0 N1 m0 m1 k W xs0 xs1 F0 F1)
    (hl : xs1'.length ≤ xs1.length + 1) (hN : N1' ≤ N1 + 1) (hp : PQ W' w.heap.size bs1 br1 N1' m1 xs1' F1') (ht : Touch F1 W W') (hn : Newer W.heap.size F1 F1') : In2 w bs0 br0 bs1 br1 N0 N1' m0 m1 (k + 1) W' xs0 xs1' F0 F1' := by
  have hd : w.heap.size < W.heap.size := World.block_lt_of_cell? _ _ h.c0
  refine ⟨h.p0.keep ht h.ap, hp, (h.ap.symm.newer hn (fun k hk => (h.p0.mem k hk).2)).symm, by have := h.l0; omega, by have := h.l1; omega, by have := h.k0; omega, by have := h.k1; omega, touch_cell ht h.n1 h.c0, touch_cell ht h.n1 h.c1, touch_cell ht h.n1 h.r0, touch_cell ht h.n1 h.r1, h.n0, fun hm => ?_, h.bel.trans (ht.below h.bel.size (fun k hk => (h.p1.mem k hk).1))⟩
  rcases hn _ hm with h1 | h1
  · exact h.n1 h1
  · omega

theorem inv_start (w W : World) (one two : Int) (D : List (Option Addr)) (M : List Int) (L : List Obj) (hb : Beg w one two 2 D M L) (h : Bg w W D M L) : InvQ w 0 W := by
  obtain ⟨dl, ml, -, b, hp, hd⟩ := hb
  obtain ⟨p0, q0⟩ := hp 0 (by omega)
  obtain ⟨p1, q1⟩ := hp 1 (by omega)
  have hd := hd rfl
  have s0 := h.obj (b 0 + 2) _ (p0.o 2 (by omega))
  have s1 := h.obj (b 1 + 2) _ (p1.o 2 (by omega))
  have t0 := h.obj (b 0 + 7) _ (p0.o 7 (by omega))
  have t1 := h.obj (b 1 + 7) _ (p1.o 7 (by omega))
  refine ⟨_, _, _, _, _, _, _, _, [], [], _, _, PQ.start s0 t0 (by omega) (by omega) (by omega), PQ.start s1 t1 (by omega) (by omega) (by omega), ?_, Nat.le_refl _, Nat.le_refl _, Nat.le_refl _, Nat.le_refl _, h.cellD 4 _ p0.d2, h.cellD 5 _ p1.d2, h.cellD 14 _ p0.d7, h.cellD 15 _ p1.d7, ?_, ?_, ?_⟩
  · intro k hk hk2
    simp at hk hk2
    omega
  · intro hk
    simp at hk
    omega
  · intro hk
    simp at hk
    omega
  · refine ⟨h.os, h.tape, h.output, by rw [h.size]; omega, fun k hk => ?_⟩
    rw [h.heap, Array.getElem?_append_left hk]

theorem inv_step (w : World) (k : Nat) (o : OpD) (W : World) (hk : k < 400) (hi : InvQ w k W) (h1 : 10 ≤ o.k) (h4 : o.k ≤ 14) :
    Calls Tryz.prog 9 #[.pointer (some ⟨w.heap.size, 0, none⟩), .agg (opv o.k o.sec o.n o.wd o.s o.stop)] W fun e W' => e = .returned (.bool true) ∧ InvQ w (k + 1) W' := by
  obtain ⟨bs0, br0, bs1, br1, N0, N1, m0, m1, xs0, xs1, F0, F1, hi⟩ := hi
  have ha := hi.alloc (.cells (opv o.k o.sec o.n o.wd o.s o.stop) 31)
  refine plays_text (InvQ w (k + 1)) w.heap.size o.k o.sec o.n o.wd o.s o.stop W h1 h4 ?_
  cases hsec : o.sec
  · rw [hsec] at ha
    have hl := ha.l0
    have hk0 := ha.k0
    refine (qo_any w.heap.size 0 bs0 br0 w.heap.size N0 m0 xs0 F0 o.k false o.n o.wd o.s o.stop _ (by omega) ha.p0 ha.bel.size (by omega) (by omega) ha.c0 ha.r0).mono ?_
    rintro e W' ⟨rfl, N', xs', F', hN, hx, hp, ht, hn⟩
    exact ⟨rfl, _, _, _, _, _, _, _, _, _, _, _, _, ha.step0 hx hN hp ht hn⟩
  · rw [hsec] at ha
    have hl := ha.l1
    have hk1 := ha.k1
    refine (qo_any w.heap.size 1 bs1 br1 w.heap.size N1 m1 xs1 F1 o.k true o.n o.wd o.s o.stop _ (by omega) ha.p1 ha.bel.size (by omega) (by omega) ha.c1 ha.r1).mono ?_
    rintro e W' ⟨rfl, N', xs', F', hN, hx, hp, ht, hn⟩
    exact ⟨rfl, _, _, _, _, _, _, _, _, _, _, _, _, ha.step1 hx hN hp ht hn⟩

set_option maxHeartbeats 1000000 in
theorem texts_any (one two : Int) (a : Option Addr) (cap : Nat) (ops : List OpD) (w : World) (hl : LOps w a ops) (hcap : ops.length ≤ 9223372036854775807) :
    Calls Tryz.prog 3 #[.int .i64 one, .int .i64 two, .slice a ops.length cap] w fun e w' => e = .returned (.bool true) ∧ Below w.heap.size w w' := by
  have hr := run_core one two 10 14 a cap ops w (InvQ w) hl hcap (fun W D M L hb h => inv_start w W one two D M L hb h) (fun k o W hk hi h1 h4 => inv_step w k o W hk hi h1 h4)
    (fun k W ⟨b0, b1, b2, b3, N0, N1, m0, m1, x0, x1, F0, F1, h⟩ => ⟨b0, b1, b2, b3, N0, N1, m0, m1, x0, x1, F0, F1, ⟨h.p0, h.p1, h.ap, by have := h.l0; omega, by have := h.l1; omega, by have := h.k0; omega, by have := h.k1; omega, h.c0, h.c1, h.r0, h.r1, h.n0, h.n1, h.bel⟩⟩)
    (fun k W ⟨_, _, _, _, _, _, _, _, _, _, _, _, h⟩ => h.bel)
  go_enter Tryz.func3, Tryz.ntmps3
  go_wp2_with fail
  refine hr.mono ?_
  rintro e w' ⟨rfl, hb⟩
  go_wp2
  go_ret
  exact ⟨rfl, hb⟩

end Go.Proofs.YtcjblafohfiiaabGreat.Tx
