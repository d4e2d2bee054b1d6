/-
  The document's arena: an object put, a filler laid.
-/
import Derived.Test.YtbdkcelggffneaaGreatDoorB11
import Derived.Test.YtbdkcelggffneaaGreatDoorB9
set_option linter.unusedVariables false
set_option maxRecDepth 20000
namespace Go.Proofs.YtbdkcelggffneaaGreatDoor
open Go.RowKit Go.Shelf

theorem bhd_words {c : Cfg} (ok : c.Ok) (s : Int) : bhd c s ≤ c.words := by
  have := ok.e0; have := ok.s0; have := ok.t0
  unfold bhd Cfg.words
  repeat' split
  all_goals omega

theorem fst_one {c : Cfg} (ok : c.Ok) (s : Nat) (h1 : 1 ≤ s) (h4 : s ≤ 4) : 1 ≤ fst c s := by
  have := ok.e0; have := ok.s0
  obtain rfl | rfl | rfl | rfl : s = 1 ∨ s = 2 ∨ s = 3 ∨ s = 4 := by omega
  all_goals
    simp [fst]
    try omega

theorem Ra.top_in {w : World} {b : Nat} {g : Nat → Nat} {c : Cfg} {x : Tps} {sw : Bool} {ws : Nat → Int} (h : Ra w b g c x sw ws) (s : Nat) (h1 : 1 ≤ s) (h4 : s ≤ 4) : fst c s ≤ x.top s ∧ x.top s ≤ bhd c s := by
  have := h.ok.e1; have := h.ok.s1; have := h.ok.t1
  obtain ⟨a1, a2, a3, a4, a5, a6, a7, a8⟩ := h.tk
  obtain rfl | rfl | rfl | rfl : s = 1 ∨ s = 2 ∨ s = 3 ∨ s = 4 := by omega
  all_goals
    simp only [fst, bhd, Tps.top]
    simp
    omega

section
variable (b : Nat) (g : Nat → Nat) (c : Cfg) (x : Tps) (sw : Bool) (ws : Nat → Int)

set_option maxHeartbeats 1000000 in
theorem rput_bad (S s k p r a t : Int) (h : Bool) (hf : flt k p r a t ≠ 0) (w : World) :
    Calls Tryz.prog 61 #[.pointer (some ⟨b, 0, none⟩), .int .i64 S, hv s k p r a t h] w fun e w' => e = .returned (.tuple #[.int .i64 0, .bool false]) ∧ Below w.heap.size w w' := by
  have b0 : Below w.heap.size w (w.alloc (.cells (hcells s k p r a t h) 31)) := Below.alloc (Below.refl _ _) (Nat.le_refl _) _
  have hp := rpack_any s k p r a t h (w.alloc (.cells (hcells s k p r a t h) 31))
  generalize flt k p r a t = f at *
  generalize pck k p r a t h = m at *
  go_enter Tryz.func61, Tryz.ntmps61
  go_wp2_with fail
  refine hp.mono ?_
  rintro e w1 ⟨rfl, b1⟩
  have b2 := b0.trans (b1.mono b0.size)
  clear b0 b1 hp
  go_wp2
  go_ret2
  exact ⟨rfl, b2⟩

set_option maxHeartbeats 2000000 in
theorem rput_full (S s k p r a t : Int) (h : Bool) (hf : flt k p r a t = 0) (hn : ¬ 2 + p + r ≤ bhd c S - x.top S) (w : World) (hA : Ra w b g c x sw ws) :
    Calls Tryz.prog 61 #[.pointer (some ⟨b, 0, none⟩), .int .i64 S, hv s k p r a t h] w fun e w' => e = .returned (.tuple #[.int .i64 0, .bool false]) ∧ Below w.heap.size w w' := by
  have b0 : Below w.heap.size w (w.alloc (.cells (hcells s k p r a t h) 31)) := Below.alloc (Below.refl _ _) (Nat.le_refl _) _
  have hp := rpack_any s k p r a t h (w.alloc (.cells (hcells s k p r a t h) 31))
  have x0 := Box.new w 31 (.int .u64 s) (.int .i64 k) (.int .i64 p) (.int .i64 r) (.int .i64 a) (.int .i64 t) (.bool h)
  have m := May.of hf
  rw [hf, pck_ok hf] at hp
  generalize wrd k p r a t h = wd at hp
  have p0 := m.p0; have p1 := m.p1; have r0 := m.r0; have r1 := m.r1
  have Ht : Hid (∀ w1, Below w.heap.size w w1 → Calls Tryz.prog 56 #[.pointer (some ⟨b, 0, none⟩), .int .i64 S, .int .i64 (2 + p + r)] w1 fun e w' => e = .returned (.tuple #[.int .i64 0, .bool false]) ∧ Below w1.heap.size w1 w') := fun w1 l => rtake_no b g c x sw ws S _ (fun hh => hn hh.2) w1 (hA.below l)
  clear hA hf m hn
  go_enter Tryz.func61, Tryz.ntmps61
  go_wp2_with fail
  refine hp.mono ?_
  rintro e w1 ⟨rfl, b1⟩
  have b2 := b0.trans (b1.mono b0.size)
  have x1 := x0.keep b1 x0.lt
  clear b0 b1 hp x0
  obtain ⟨y0, y1, y2, y3, y4, y5, y6, -, -, -, -, -, -, -⟩ := x1
  go_wp2_with fail
  refine (rsizeh_any s k p r a t h p0 p1 r0 (by omega) _).mono ?_
  rintro e w2 ⟨rfl, hw2⟩
  have b3 : Below w.heap.size w w2 := by rw [hw2]; exact Below.alloc b2 b2.size _
  clear hw2 b2 y0 y1 y2 y3 y4 y5 y6
  go_wp2_with fail
  refine (Ht.out w2 b3).mono ?_
  rintro e w3 ⟨rfl, b4⟩
  have b5 := b3.trans (b4.mono b3.size)
  clear b3 b4 Ht
  go_wp2
  go_ret2
  exact ⟨rfl, b5⟩

set_option maxHeartbeats 2000000 in
theorem rput_yes (S : Nat) (S1 : 1 ≤ S) (S4 : S ≤ 4) (s k p r a t : Int) (h : Bool) (hf : flt k p r a t = 0) (q n : Nat) (hq : x.top S = q) (hn : (n : Int) = 2 + p + r) (hle : (q : Int) + n ≤ bhd c S) (w : World) (hA : Ra w b g c x sw ws) :
    Calls Tryz.prog 61 #[.pointer (some ⟨b, 0, none⟩), .int .i64 S, hv s k p r a t h] w fun e w' => e = .returned (.tuple #[.int .i64 q, .bool true]) ∧ Ra w' b g c (x.put S (q + n)) sw (putw ws q n (wrd k p r a t h) s) ∧ Touch (rft b g) w w' := by
  have b0 : Below w.heap.size w (w.alloc (.cells (hcells s k p r a t h) 31)) := Below.alloc (Below.refl _ _) (Nat.le_refl _) _
  have hp := rpack_any s k p r a t h (w.alloc (.cells (hcells s k p r a t h) 31))
  have x0 := Box.new w 31 (.int .u64 s) (.int .i64 k) (.int .i64 p) (.int .i64 r) (.int .i64 a) (.int .i64 t) (.bool h)
  have m := May.of hf
  rw [hf, pck_ok hf] at hp
  generalize wrd k p r a t h = wd at hp ⊢
  have p0 := m.p0; have p1 := m.p1; have r0 := m.r0; have r1 := m.r1
  have wo := bhd_words hA.ok S
  have fo := fst_one hA.ok S S1 S4
  have ti := hA.top_in S S1 S4
  have Ht : Hid (∀ w1, Below w.heap.size w w1 → Calls Tryz.prog 56 #[.pointer (some ⟨b, 0, none⟩), .int .i64 S, .int .i64 (2 + p + r)] w1 fun e w' => e = .returned (.tuple #[.int .i64 q, .bool true]) ∧ Ra w' b g c (x.put S (q + n)) sw (zer ws q n) ∧ Touch (rft b g) w1 w') := fun w1 l => by
    rw [← hn]
    exact rtake_yes b g c x sw ws S q n S1 S4 hq (by omega) hle w1 (hA.below l)
  have H1 : Hid (∀ w1, Ra w1 b g c (x.put S (q + n)) sw (zer ws q n) → Calls Tryz.prog 71 #[.pointer (some ⟨b, 0, none⟩), .int .i64 q, .int .u64 wd] w1 fun e w' => e = .returned (.bool true) ∧ Ra w' b g c (x.put S (q + n)) sw (upd (zer ws q n) q wd) ∧ Touch (rft b g) w1 w') := fun w1 hw => rsetWord_yes b g c _ sw _ q wd (by omega) (by omega) w1 hw
  have H2 : Hid (∀ w1, Ra w1 b g c (x.put S (q + n)) sw (upd (zer ws q n) q wd) → Calls Tryz.prog 71 #[.pointer (some ⟨b, 0, none⟩), .int .i64 ((q : Int) + 1), .int .u64 s] w1 fun e w' => e = .returned (.bool true) ∧ Ra w' b g c (x.put S (q + n)) sw (putw ws q n wd s) ∧ Touch (rft b g) w1 w') := fun w1 hw => by
    have := rsetWord_int b g c _ sw _ ((q : Int) + 1) s (by omega) (by omega) w1 hw
    rw [show ((q : Int) + 1).toNat = q + 1 by omega] at this
    exact this
  have hlt := hA.lt
  have HL : Hid (∀ z ∈ rft b g, z < w.heap.size) := hlt
  obtain ⟨Q, hQ⟩ : ∃ Q : Int, Q = q := ⟨_, rfl⟩
  have hqb : Q < 400000 := by have := spn_bhd hA.ok S S1 S4; have := fst_in hA.ok (S : Int); omega
  have hq0 : 0 ≤ Q := by omega
  rw [← hQ] at Ht H1 H2 ⊢
  clear hA hf m hn hle wo fo ti hlt hQ hq
  go_enter Tryz.func61, Tryz.ntmps61
  go_wp2_with fail
  refine hp.mono ?_
  rintro e w1 ⟨rfl, b1⟩
  have b2 := b0.trans (b1.mono b0.size)
  have x1 := x0.keep b1 x0.lt
  clear b0 b1 hp x0
  have x1' := x1
  obtain ⟨y0, y1, y2, y3, y4, y5, y6, -, -, -, -, -, -, -⟩ := x1
  go_wp2_with fail
  refine (rsizeh_any s k p r a t h p0 p1 r0 (by omega) _).mono ?_
  rintro e w2 ⟨rfl, hw2⟩
  have b3 : Below w.heap.size w w2 := by rw [hw2]; exact Below.alloc b2 b2.size _
  have x2 : w2.cell? ⟨w.heap.size, 0, none⟩ = some (.int .u64 s) := by
    rw [hw2]; exact (x1'.keep (Below.alloc (Below.refl _ _) (Nat.le_refl _) _) x1'.lt).h0
  have hwl : w.heap.size < w2.heap.size := World.block_lt_of_cell? _ _ x2
  clear hw2 b2 y0 y1 y2 y3 y4 y5 y6 x1'
  go_wp2_with fail
  refine (Ht.out w2 b3).mono ?_
  rintro e w3 ⟨rfl, hA3, t3⟩
  have hoff : w.heap.size ∉ rft b g := fun hh => Nat.lt_irrefl _ (HL.out _ hh)
  have x3 : w3.cell? ⟨w.heap.size, 0, none⟩ = some (.int .u64 s) := by
    rw [World.cell?_of_block (w := w2) (t3.block _ hwl hoff)]; exact x2
  have hwl3 : w.heap.size < w3.heap.size := World.block_lt_of_cell? _ _ x3
  have T4 : Hid (Touch (rft b g) w w3) := (Touch.of_below b3 _).trans t3
  clear t3 b3 x2 hwl Ht
  go_wp2_with fail
  refine (H1.out w3 hA3).mono ?_
  rintro e w4 ⟨rfl, hA4, t4⟩
  have x4 : w4.cell? ⟨w.heap.size, 0, none⟩ = some (.int .u64 s) := by
    rw [World.cell?_of_block (w := w3) (t4.block _ hwl3 hoff)]; exact x3
  have T5 : Hid (Touch (rft b g) w w4) := T4.out.trans t4
  clear t4 x3 hA3 T4 H1 hwl3
  go_wp2_with fail
  refine (H2.out w4 hA4).mono ?_
  rintro e w5 ⟨rfl, hA5, t5⟩
  have T6 : Hid (Touch (rft b g) w w5) := T5.out.trans t5
  have HA5 : Hid _ := hA5
  clear t5 x4 hA4 T5 H2 hA5 hoff
  go_wp2
  go_ret2
  exact ⟨rfl, HA5.out, T6.out⟩

set_option maxHeartbeats 1000000 in
theorem rfill_no (S n : Int) (hn : ¬ (1 ≤ n ∧ n ≤ bhd c S - x.top S)) (w : World) (h : Ra w b g c x sw ws) :
    Calls Tryz.prog 63 #[.pointer (some ⟨b, 0, none⟩), .int .i64 S, .int .i64 n] w fun e w' => e = .returned (.bool false) ∧ Below w.heap.size w w' := by
  have hf := rfiller_any n w
  have ht := rtake_no b g c x sw ws S n hn w h
  clear h hn
  by_cases hz : tg 3 n = 0
  · rw [hz] at hf
    clear hz ht
    go_enter Tryz.func63, Tryz.ntmps63
    go_wp2_with fail
    refine hf.mono ?_
    rintro e w1 ⟨rfl, rfl⟩
    clear hf
    go_wp2
    go_ret
    exact ⟨rfl, Below.refl _ _⟩
  · generalize tg 3 n = m at *
    go_enter Tryz.func63, Tryz.ntmps63
    go_wp2_with fail
    refine hf.mono ?_
    rintro e w1 ⟨rfl, rfl⟩
    clear hf
    go_wp2_with fail
    refine ht.mono ?_
    rintro e w2 ⟨rfl, l2⟩
    clear ht
    go_wp2
    go_ret
    exact ⟨rfl, l2⟩

set_option maxHeartbeats 1000000 in
theorem rfill_yes (S p n : Nat) (S1 : 1 ≤ S) (S4 : S ≤ 4) (hp : x.top S = p) (h0 : 0 < n) (h1 : (p : Int) + n ≤ bhd c S) (w : World) (h : Ra w b g c x sw ws) :
    Calls Tryz.prog 63 #[.pointer (some ⟨b, 0, none⟩), .int .i64 S, .int .i64 n] w fun e w' => e = .returned (.bool true) ∧ Ra w' b g c (x.put S (p + n)) sw (upd (zer ws p n) p ((n : Int) * 4 + 3)) ∧ Touch (rft b g) w w' := by
  have hf := rfiller_any (n : Int) w
  have ht := rtake_yes b g c x sw ws S p n S1 S4 hp h0 h1 w h
  have wo := bhd_words h.ok S
  have fo := fst_one h.ok S S1 S4
  have ti := h.top_in S S1 S4
  have hs := spn_bhd h.ok S S1 S4
  have fi := fst_in h.ok (S : Int)
  have hnn : (n : Int) ≤ 65536 := by omega
  have hg : tg 3 (n : Int) = (n : Int) * 4 + 3 := by unfold tg; rw [if_neg (by omega)]
  rw [hg] at hf
  have H1 : Hid (∀ w1, Ra w1 b g c (x.put S (p + n)) sw (zer ws p n) → Calls Tryz.prog 71 #[.pointer (some ⟨b, 0, none⟩), .int .i64 p, .int .u64 ((n : Int) * 4 + 3)] w1 fun e w' => e = .returned (.bool true) ∧ Ra w' b g c (x.put S (p + n)) sw (upd (zer ws p n) p ((n : Int) * 4 + 3)) ∧ Touch (rft b g) w1 w') := fun w1 hw => rsetWord_yes b g c _ sw _ p _ (by omega) (by omega) w1 hw
  have hmz : ¬ (n : Int) * 4 + 3 = 0 := by omega
  clear h wo fo ti hs fi hg h1 hp
  generalize (n : Int) * 4 + 3 = m at *
  go_enter Tryz.func63, Tryz.ntmps63
  go_wp2_with fail
  refine hf.mono ?_
  rintro e w1 ⟨rfl, rfl⟩
  clear hf
  go_wp2_with fail
  refine ht.mono ?_
  rintro e w2 ⟨rfl, hA2, t2⟩
  clear ht
  go_wp2_with fail
  refine (H1.out w2 hA2).mono ?_
  rintro e w3 ⟨rfl, hA3, t3⟩
  have T3 : Hid (Touch (rft b g) w1 w3) := t2.trans t3
  have HA3 : Hid _ := hA3
  clear t2 t3 hA2 hA3 H1
  go_wp2
  go_ret
  exact ⟨rfl, HA3.out, T3.out⟩
end

end Go.Proofs.YtbdkcelggffneaaGreatDoor
