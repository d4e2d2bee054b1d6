/-
  BagNamed: two tables, every call.
-/
import Derived.Test.YtcjblafohfiiaabGreatRu
import Derived.Test.YtcjblafohfiiaabGreatYG7
set_option linter.unusedVariables false
set_option maxRecDepth 20000
namespace Go.Proofs.YtcjblafohfiiaabGreat.Nd
open Go.RowKit Go.Shelf

set_option maxHeartbeats 2000000 in
theorem wo_all (d i bt br base : Nat) (ks : List ByteArray) (vs : List Int) (kr : List ByteArray) (vr : List Int) (F : List Nat) (k : Int) (sec : Bool) (n wd : Int) (s : ByteArray) (stop : Int) (w : World) (hi : i < 2) (hp : PW w base bt br ks vs kr vr F) (hlen : ks.length < 1000000) (hk1 : (k == 21) = false) (hk2 : (k == 22) = false) (hk3 : (k == 23) = false) (hk4 : (k == 24) = false) (hk5 : (k == 25) = false)
    (hc : w.cell? ⟨d, 8 + i, none⟩ = some (.pointer (some ⟨bt, 0, none⟩))) (hcr : w.cell? ⟨d, 18 + i, none⟩ = some (.pointer (some ⟨br, 0, none⟩))) :
    Calls Tryz.prog 22 #[.pointer (some ⟨d, 0, none⟩), .agg (opv k sec n wd s stop), .int .i64 i] w fun e w' => e = .returned (.bool true) ∧ Left base bt br ks F w w' := by
  have hi' : (i : Int) < 2 := by omega
  have hdl : d < w.heap.size := World.block_lt_of_cell? _ _ hc
  have ha : Touch [] w (w.alloc (.cells (opv k sec n wd s stop) 31)) := Touch.alloc _ _ _
  have hal := all_any d i bt br base ks vs kr vr F stop (w.alloc (.cells (opv k sec n wd s stop) 31)) hi (hp.keep ha (by intro k _ h; simp at h)) hlen ((World.cell?_of_block (w := w) (ha.block d hdl (by simp))).trans hc) ((World.cell?_of_block (w := w) (ha.block d hdl (by simp))).trans hcr)
  have Hfin : Hid (∀ w', Touch [] (w.alloc (.cells (opv k sec n wd s stop) 31)) w' → Left base bt br ks F w w') := fun w' hT => left_same bt br base ks vs kr vr F w hp (ha.trans hT)
  clear hp
  go_enter Tryz.func22, Tryz.ntmps22
  go_wp2_with fail
  refine hal.mono ?_
  rintro e w1 ⟨rfl, hT⟩
  have hl := Hfin.out w1 hT
  clear hal Hfin hT
  go_wp2
  go_ret
  exact ⟨rfl, hl⟩

theorem wo_any (d i bt br base : Nat) (ks : List ByteArray) (vs : List Int) (kr : List ByteArray) (vr : List Int) (F : List Nat) (k : Int) (sec : Bool) (n wd : Int) (s : ByteArray) (stop : Int) (w : World) (hi : i < 2) (hp : PW w base bt br ks vs kr vr F) (hbase : base ≤ w.heap.size) (hlen : ks.length < 1000000)
    (hc : w.cell? ⟨d, 8 + i, none⟩ = some (.pointer (some ⟨bt, 0, none⟩))) (hcr : w.cell? ⟨d, 18 + i, none⟩ = some (.pointer (some ⟨br, 0, none⟩))) :
    Calls Tryz.prog 22 #[.pointer (some ⟨d, 0, none⟩), .agg (opv k sec n wd s stop), .int .i64 i] w fun e w' => e = .returned (.bool true) ∧ Left base bt br ks F w w' := by
  by_cases h1 : k = 21
  · subst h1; exact wo_set d i bt br base ks vs kr vr F sec n wd s stop w hi hp hbase hlen hc hcr
  · by_cases h2 : k = 22
    · subst h2; exact wo_get d i bt br base ks vs kr vr F sec n wd s stop w hi hp hlen hc hcr
    · by_cases h3 : k = 23
      · subst h3; exact wo_drop d i bt br base ks vs kr vr F sec n wd s stop w hi hp hlen hc hcr
      · by_cases h4 : k = 24
        · subst h4; exact wo_near d i bt br base ks vs kr vr F sec n wd s stop w hi hp hlen hc hcr
        · by_cases h5 : k = 25
          · subst h5; exact wo_len d i bt br base ks vs kr vr F sec n wd s stop w hi hp hc hcr
          · exact wo_all d i bt br base ks vs kr vr F k sec n wd s stop w hi hp hlen (by simpa using h1) (by simpa using h2) (by simpa using h3) (by simpa using h4) (by simpa using h5) hc hcr

set_option maxHeartbeats 2000000 in
/-- plays, of a table. -/
theorem plays_tab (R : World → Prop) (d : Nat) (k : Int) (sec : Bool) (n wd : Int) (s : ByteArray) (stop : Int) (w : World) (hk1 : 21 ≤ k) (hk4 : k ≤ 26)
    (h : Calls Tryz.prog 22 #[.pointer (some ⟨d, 0, none⟩), .agg (opv k sec n wd s stop), .int .i64 (if sec = true then 1 else 0)] (w.alloc (.cells (opv k sec n wd s stop) 31)) fun e w' => e = .returned (.bool true) ∧ R w') :
    Calls Tryz.prog 9 #[.pointer (some ⟨d, 0, none⟩), .agg (opv k sec n wd s stop)] w fun e w' => e = .returned (.bool true) ∧ R w' := by
  have e1 : ¬ k < 1 := by omega
  have e2 : ¬ 26 < k := by omega
  have e3 : ¬ k ≤ 4 := by omega
  have e4 : ¬ k ≤ 9 := by omega
  have e5 : ¬ k ≤ 14 := by omega
  have e6 : ¬ k ≤ 20 := by omega
  cases sec
  · simp only [Bool.false_eq_true, if_false] at h
    go_enter Tryz.func9, Tryz.ntmps9
    go_wp2_with fail
    refine h.mono ?_
    rintro e w' ⟨rfl, hR⟩
    go_wp2
    go_ret
    exact ⟨rfl, hR⟩
  · simp only [if_true] at h
    go_enter Tryz.func9, Tryz.ntmps9
    go_wp2_with fail
    refine h.mono ?_
    rintro e w' ⟨rfl, hR⟩
    go_wp2
    go_ret
    exact ⟨rfl, hR⟩

theorem PW.start {W : World} {base bt br : Nat} (hs : W.heap[bt]? = some oTta) (hr : W.heap[br]? = some oNmd) (h1 : base ≤ bt) (h2 : base ≤ br) (hne : bt ≠ br) : PW W base bt br [] [] [] [] [bt, br] := by
  refine ⟨[bt], [br], ⟨.slice none 0 0, .slice none 0 0, hs, h1, World.ownsRow_nil _ _ _ _, World.ownsRow_nil _ _ _ _, rfl, Srt.nil, rfl⟩, ⟨.slice none 0 0, .slice none 0 0, hr, h2, World.ownsRow_nil _ _ _ _, World.ownsRow_nil _ _ _ _, rfl, rfl⟩, Same.nil, ?_, rfl⟩
  intro k hk hk2
  simp at hk hk2
  omega

/-- One of the two, behind k steps. -/
def PWl (W : World) (base bt br k : Nat) (F : List Nat) : Prop := ∃ ks vs kr vr, PW W base bt br ks vs kr vr F ∧ ks.length ≤ k

theorem PWl.keep {W W' : World} {base bt br k : Nat} {F G : List Nat} (h : PWl W base bt br k F) (ht : Touch G W W') (ha : Apart F G) : PWl W' base bt br k F := by
  obtain ⟨ks, vs, kr, vr, h, hl⟩ := h
  exact ⟨ks, vs, kr, vr, h.keep ht ha, hl⟩

theorem PWl.mem {W : World} {base bt br k : Nat} {F : List Nat} (h : PWl W base bt br k F) : ∀ k, k ∈ F → base ≤ k ∧ k < W.heap.size := by
  obtain ⟨ks, vs, kr, vr, h, hl⟩ := h
  exact h.mem

theorem PWl.more {W : World} {base bt br k : Nat} {F : List Nat} (h : PWl W base bt br k F) : PWl W base bt br (k + 1) F := by
  obtain ⟨ks, vs, kr, vr, h, hl⟩ := h
  exact ⟨ks, vs, kr, vr, h, by omega⟩

theorem wo_pwl (d i bt br base k : Nat) (F : List Nat) (o : OpD) (w : World) (hi : i < 2) (hp : PWl w base bt br k F) (hk : k < 400) (hbase : base ≤ w.heap.size)
    (hc : w.cell? ⟨d, 8 + i, none⟩ = some (.pointer (some ⟨bt, 0, none⟩))) (hcr : w.cell? ⟨d, 18 + i, none⟩ = some (.pointer (some ⟨br, 0, none⟩))) :
    Calls Tryz.prog 22 #[.pointer (some ⟨d, 0, none⟩), .agg (opv o.k o.sec o.n o.wd o.s o.stop), .int .i64 i] w fun e w' => e = .returned (.bool true) ∧ ∃ F', PWl w' base bt br (k + 1) F' ∧ Touch F w w' ∧ Newer w.heap.size F F' := by
  obtain ⟨ks, vs, kr, vr, h, hl⟩ := hp
  refine (wo_any d i bt br base ks vs kr vr F o.k o.sec o.n o.wd o.s o.stop w hi h hbase (by omega) hc hcr).mono ?_
  rintro e w' ⟨rfl, ks', vs', kr', vr', F', h1, h2, h3, h4⟩
  exact ⟨rfl, F', ⟨ks', vs', kr', vr', h2, by omega⟩, h3, h4⟩

/-- The two tables, the desk. -/
structure In2 (w : World) (bs0 br0 bs1 br1 : Nat) (k : Nat) (W : World) (F0 F1 : List Nat) : Prop where
  p0 : PWl W w.heap.size bs0 br0 k F0
  p1 : PWl W w.heap.size bs1 br1 k F1
  ap : Apart F0 F1
  c0 : W.cell? ⟨w.heap.size, 8, none⟩ = some (.pointer (some ⟨bs0, 0, none⟩))
  c1 : W.cell? ⟨w.heap.size, 9, none⟩ = some (.pointer (some ⟨bs1, 0, none⟩))
  r0 : W.cell? ⟨w.heap.size, 18, none⟩ = some (.pointer (some ⟨br0, 0, none⟩))
  r1 : W.cell? ⟨w.heap.size, 19, none⟩ = some (.pointer (some ⟨br1, 0, none⟩))
  n0 : w.heap.size ∉ F0
  n1 : w.heap.size ∉ F1
  bel : Below w.heap.size w W

def InvQ (w : World) (k : Nat) (W : World) : Prop := ∃ bs0 br0 bs1 br1 F0 F1, In2 w bs0 br0 bs1 br1 k W F0 F1

theorem touch_cell {F : List Nat} {W W' : World} {p : Addr} {v : Value} (ht : Touch F W W') (hn : p.block ∉ F) (h : W.cell? p = some v) : W'.cell? p = some v := by
  rw [World.cell?_of_block (w := W) (ht.block p.block (World.block_lt_of_cell? _ _ h) hn)]
  exact h

theorem In2.alloc {w : World} {bs0 br0 bs1 br1 : Nat} {k : Nat} {W : World} {F0 F1 : List Nat} (h : In2 w bs0 br0 bs1 br1 k W F0 F1) (o : Obj) : In2 w bs0 br0 bs1 br1 k (W.alloc o) F0 F1 := by
  have ta : Touch [] W (W.alloc o) := Touch.alloc _ _ _
  exact ⟨h.p0.keep ta (by intro k _ h; simp at h), h.p1.keep ta (by intro k _ h; simp at h), h.ap, touch_cell ta (by simp) h.c0, touch_cell ta (by simp) h.c1, touch_cell ta (by simp) h.r0, touch_cell ta (by simp) h.r1, h.n0, h.n1, Below.alloc h.bel h.bel.size o⟩

theorem In2.step0 {w : World} {bs0 br0 bs1 br1 : Nat} {k : Nat} {W W' : World} {F0 F1 F0' : List Nat} (h : In2 w bs0 br0 bs1 br1 k W F0 F1)
    (hp : PWl W' w.heap.size bs0 br0 (k + 1) F0') (ht : Touch F0 W W') (hn : Newer W.heap.size F0 F0') : In2 w bs0 br0 bs1 br1 (k + 1) W' F0' F1 := by
  have hd : w.heap.size < W.heap.size := World.block_lt_of_cell? _ _ h.c0
  refine ⟨hp, (h.p1.keep ht h.ap.symm).more, h.ap.newer hn (fun k hk => (h.p1.mem k hk).2), touch_cell ht h.n0 h.c0, touch_cell ht h.n0 h.c1, touch_cell ht h.n0 h.r0, touch_cell ht h.n0 h.r1, fun hm => ?_, h.n1, h.bel.trans (ht.below h.bel.size (fun k hk => (h.p0.mem k hk).1))⟩
  rcases hn _ hm with h1 | h1
  · exact h.n0 h1
  · omega

theorem In2.step1 {w : World} {bs0 br0 bs1 br1 : Nat} {k : Nat} {W W' : World} {F0 F1 F1' : List Nat} (h : In2 w bs0 br0 bs1 br1 k W F0 F1)
    (hp : PWl W' w.heap.size bs1 br1 (k + 1) F1') (ht : Touch F1 W W') (hn : Newer W.heap.size F1 F1') : In2 w bs0 br0 bs1 br1 (k + 1) W' F0 F1' := by
  have hd : w.heap.size < W.heap.size := World.block_lt_of_cell? _ _ h.c0
  refine ⟨(h.p0.keep ht h.ap).more, hp, (h.ap.symm.newer hn (fun k hk => (h.p0.mem k hk).2)).symm, touch_cell ht h.n1 h.c0, touch_cell ht h.n1 h.c1, touch_cell ht h.n1 h.r0, touch_cell ht h.n1 h.r1, h.n0, fun hm => ?_, h.bel.trans (ht.below h.bel.size (fun k hk => (h.p1.mem k hk).1))⟩
  rcases hn _ hm with h1 | h1
  · exact h.n1 h1
  · omega

theorem inv_start (w W : World) (one two : Int) (D : List (Option Addr)) (M : List Int) (L : List Obj) (hb : Beg w one two 2 D M L) (h : Bg w W D M L) : InvQ w 0 W := by
  obtain ⟨dl, ml, -, b, hp, hd⟩ := hb
  obtain ⟨p0, q0⟩ := hp 0 (by omega)
  obtain ⟨p1, q1⟩ := hp 1 (by omega)
  have hd := hd rfl
  have s0 := h.obj (b 0 + 4) _ (p0.o 4 (by omega))
  have s1 := h.obj (b 1 + 4) _ (p1.o 4 (by omega))
  have t0 := h.obj (b 0 + 9) _ (p0.o 9 (by omega))
  have t1 := h.obj (b 1 + 9) _ (p1.o 9 (by omega))
  refine ⟨_, _, _, _, _, _, ⟨[], [], [], [], PW.start s0 t0 (by omega) (by omega) (by omega), Nat.le_refl _⟩, ⟨[], [], [], [], PW.start s1 t1 (by omega) (by omega) (by omega), Nat.le_refl _⟩, ?_, h.cellD 8 _ p0.d4, h.cellD 9 _ p1.d4, h.cellD 18 _ p0.d9, h.cellD 19 _ p1.d9, ?_, ?_, ?_⟩
  · intro k hk hk2
    simp at hk hk2
    omega
  · intro hk
    simp at hk
    omega
  · intro hk
    simp at hk
    omega
  · refine ⟨h.os, h.tape, h.output, by rw [h.size]; omega, fun k hk => ?_⟩
    rw [h.heap, Array.getElem?_append_left hk]

theorem inv_step (w : World) (k : Nat) (o : OpD) (W : World) (hk : k < 400) (hi : InvQ w k W) (h1 : 21 ≤ o.k) (h4 : o.k ≤ 26) :
    Calls Tryz.prog 9 #[.pointer (some ⟨w.heap.size, 0, none⟩), .agg (opv o.k o.sec o.n o.wd o.s o.stop)] W fun e W' => e = .returned (.bool true) ∧ InvQ w (k + 1) W' := by
  obtain ⟨bs0, br0, bs1, br1, F0, F1, hi⟩ := hi
  have ha := hi.alloc (.cells (opv o.k o.sec o.n o.wd o.s o.stop) 31)
  refine plays_tab (InvQ w (k + 1)) w.heap.size o.k o.sec o.n o.wd o.s o.stop W h1 h4 ?_
  cases hsec : o.sec
  · have hst := wo_pwl w.heap.size 0 bs0 br0 w.heap.size k F0 o _ (by omega) ha.p0 hk ha.bel.size ha.c0 ha.r0
    rw [hsec] at hst ha
    refine hst.mono ?_
    rintro e W' ⟨rfl, F', hp, ht, hn⟩
    exact ⟨rfl, _, _, _, _, _, _, ha.step0 hp ht hn⟩
  · have hst := wo_pwl w.heap.size 1 bs1 br1 w.heap.size k F1 o _ (by omega) ha.p1 hk ha.bel.size ha.c1 ha.r1
    rw [hsec] at hst ha
    refine hst.mono ?_
    rintro e W' ⟨rfl, F', hp, ht, hn⟩
    exact ⟨rfl, _, _, _, _, _, _, ha.step1 hp ht hn⟩

set_option maxHeartbeats 1000000 in
theorem law_any (a : Option Addr) (cap : Nat) (ops : List OpD) (w : World) (hl : LOps w a ops) (hcap : ops.length ≤ 9223372036854775807) :
    Calls Tryz.prog 5 #[.slice a ops.length cap] w fun e w' => e = .returned (.bool true) ∧ Below w.heap.size w w' := by
  have hr := run_core 0 0 21 26 a cap ops w (InvQ w) hl hcap (fun W D M L hb h => inv_start w W 0 0 D M L hb h) (fun k o W hk hi h1 h4 => inv_step w k o W hk hi h1 h4)
    (fun k W ⟨b0, b1, b2, b3, F0, F1, h⟩ => ⟨b0, b1, b2, b3, F0, F1, ⟨h.p0.more, h.p1.more, h.ap, h.c0, h.c1, h.r0, h.r1, h.n0, h.n1, h.bel⟩⟩)
    (fun k W ⟨_, _, _, _, _, _, h⟩ => h.bel)
  go_enter Tryz.func5, Tryz.ntmps5
  go_wp2_with fail
  refine hr.mono ?_
  rintro e w' ⟨rfl, hb⟩
  go_wp2
  go_ret
  exact ⟨rfl, hb⟩

end Go.Proofs.YtcjblafohfiiaabGreat.Nd
