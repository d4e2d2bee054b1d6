/-
  Put.
-/
import Derived.Test.YtpiemfchjlihfaaGreatDoorA8
set_option linter.unusedVariables false
namespace Go.Proofs.YtpiemfchjlihfaaGreatDoor
open Go.RowKit

theorem pck_ok {k p r a t : Int} {h : Bool} (hf : flt k p r a t = 0) : pck k p r a t h = wrd k p r a t h := by unfold pck; rw [if_pos hf]

theorem wrd_wd {k p r a t : Int} {h : Bool} (m : May k p r a t) : Wd (wrd k p r a t h) := by
  have := m.k1; have := m.k4; have := m.p0; have := m.p1; have := m.r0; have := m.r1; have := m.a0; have := m.a1; have := m.s0; have := m.s1
  unfold wrd Wd
  split <;> omega

set_option maxHeartbeats 1000000 in
theorem put_bad (b g : Nat) (S s k p r a t : Int) (h : Bool) (hf : flt k p r a t ≠ 0) (w : World) (hL : Laid w) :
    Calls Tryz.prog 17 #[.pointer (some ⟨b, 0, none⟩), .int .i64 S, hv s k p r a t h] w fun e w' => e = .returned (.tuple #[.int .i64 0, .bool false]) ∧ Below w.heap.size w w' := by
  have b0 : Below w.heap.size w (w.alloc (.cells (hcells s k p r a t h) 46)) := Below.alloc (Below.refl _ _) (Nat.le_refl _) _
  have hp := pack_any s k p r a t h _ (hL.keep b0)
  generalize flt k p r a t = f, pck k p r a t h = m at hf hp
  go_enter Tryz.func17, Tryz.ntmps17
  go_wp2_with fail
  refine hp.mono ?_
  rintro e w1 ⟨rfl, b1⟩
  have b2 := b0.trans (b1.mono b0.size)
  go_wp2
  go_ret2
  exact ⟨rfl, b2⟩

set_option maxHeartbeats 1000000 in
theorem put_full (b g : Nat) (c : Cfg) (x : Tps) (sw : Bool) (ws : Nat → Int) (S s k p r a t : Int) (h : Bool) (hf : flt k p r a t = 0) (hn : ¬ 2 + p + r ≤ bhd c S - x.top S) (w : World) (hA : Ar w b g c x sw ws) (hL : Laid w) :
    Calls Tryz.prog 17 #[.pointer (some ⟨b, 0, none⟩), .int .i64 S, hv s k p r a t h] w fun e w' => e = .returned (.tuple #[.int .i64 0, .bool false]) ∧ Below w.heap.size w w' := by
  have b0 : Below w.heap.size w (w.alloc (.cells (hcells s k p r a t h) 46)) := Below.alloc (Below.refl _ _) (Nat.le_refl _) _
  have hp := pack_any s k p r a t h _ (hL.keep b0)
  have x0 := Box.new w 46 (.int .u64 s) (.int .i64 k) (.int .i64 p) (.int .i64 r) (.int .i64 a) (.int .i64 t) (.bool h)
  have m := May.of hf
  rw [hf] at hp
  generalize pck k p r a t h = wd at hp
  have p0 := m.p0; have p1 := m.p1; have r0 := m.r0; have r1 := m.r1
  have Hm : Hid (May k p r a t) := m
  clear hf m
  have Ht : Hid (∀ w, Ar w b g c x sw ws → Calls Tryz.prog 62 #[.pointer (some ⟨b, 0, none⟩), .int .i64 S, .int .i64 (2 + p + r)] w fun e w' => e = .returned (.tuple #[.int .i64 0, .bool false]) ∧ Below w.heap.size w w') := fun w hw => take_no b g c x sw ws S _ (fun hh => hn hh.2) w hw
  have HA : Hid (Ar w b g c x sw ws) := hA
  clear hA hn
  go_enter Tryz.func17, Tryz.ntmps17
  go_wp2_with fail
  refine hp.mono ?_
  rintro e w1 ⟨rfl, b1⟩
  have b2 := b0.trans (b1.mono b0.size)
  have x1 := x0.keep b1 x0.lt
  clear b0 b1 hp x0
  obtain ⟨y0, y1, y2, y3, y4, y5, y6, -, -, -, -, -, -, -⟩ := x1
  go_wp2_with fail
  refine (size_any3 s k p r a t h p0 p1 r0 (by omega) _).mono ?_
  rintro e w2 ⟨rfl, hw2⟩
  have b3 : Below w.heap.size w w2 := by rw [hw2]; exact Below.alloc b2 b2.size _
  clear hw2 b2 y0 y1 y2 y3 y4 y5 y6
  go_wp2_with fail
  refine (Ht.out w2 (HA.out.below b3)).mono ?_
  rintro e w3 ⟨rfl, b4⟩
  have b5 := b3.trans (b4.mono b3.size)
  clear b3 b4
  go_wp2
  go_ret2
  exact ⟨rfl, b5⟩

/-- What Put writes. -/
def putw (ws : Nat → Int) (q n : Nat) (m s : Int) : Nat → Int := upd (upd (zer ws q n) q m) (q + 1) s

set_option maxHeartbeats 2000000 in
theorem put_yes (b g : Nat) (c : Cfg) (x : Tps) (sw : Bool) (ws : Nat → Int) (S s k p r a t : Int) (h : Bool) (hs : Wd s) (hf : flt k p r a t = 0) (q n : Nat) (hq : x.top S = q) (hn : (n : Int) = 2 + p + r) (hle : (q : Int) + n ≤ bhd c S) (w : World) (hA : Ar w b g c x sw ws) (hL : Laid w) :
    Calls Tryz.prog 17 #[.pointer (some ⟨b, 0, none⟩), .int .i64 S, hv s k p r a t h] w fun e w' => e = .returned (.tuple #[.int .i64 q, .bool true]) ∧ Ar w' b g c (x.put S (q + n)) sw (putw ws q n (wrd k p r a t h) s) ∧ Touch [b, g] w w' := by
  have b0 : Below w.heap.size w (w.alloc (.cells (hcells s k p r a t h) 46)) := Below.alloc (Below.refl _ _) (Nat.le_refl _) _
  have hp := pack_any s k p r a t h _ (hL.keep b0)
  have x0 := Box.new w 46 (.int .u64 s) (.int .i64 k) (.int .i64 p) (.int .i64 r) (.int .i64 a) (.int .i64 t) (.bool h)
  have m := May.of hf
  rw [hf, pck_ok hf] at hp
  have hwd := wrd_wd (h := h) m
  generalize wrd k p r a t h = wd at hp hwd ⊢
  have p0 := m.p0; have p1 := m.p1; have r0 := m.r0; have r1 := m.r1
  have wo := hA.words
  have bo := (hA.sub_in S).2.2.2
  have Ht : Hid (∀ w, Ar w b g c x sw ws → Calls Tryz.prog 62 #[.pointer (some ⟨b, 0, none⟩), .int .i64 S, .int .i64 (2 + p + r)] w fun e w' => e = .returned (.tuple #[.int .i64 q, .bool true]) ∧ Ar w' b g c (x.put S (q + n)) sw (zer ws q n) ∧ Touch [b, g] w w') := fun w hw => by
    rw [← hn]
    exact take_yes b g c x sw ws S q n hq (by omega) hle w hw
  have Hw : Hid (∀ w, Ar w b g c (x.put S (q + n)) sw (zer ws q n) → Calls Tryz.prog 64 #[.pointer (some ⟨b, 0, none⟩), .int .i64 q, .int .u64 wd, .int .u64 s] w fun e w' => e = .returned (.tuple #[]) ∧ Ar w' b g c (x.put S (q + n)) sw (putw ws q n wd s) ∧ Touch [g] w w') := fun w hw => write_any b g c _ sw _ q wd s hwd hs (by omega) w hw
  have HA : Hid (Ar w b g c x sw ws) := hA
  have hbl := hA.own.lt
  have hgl := hA.row.lt
  clear hA hf m hn hle bo
  go_enter Tryz.func17, Tryz.ntmps17
  go_wp2_with fail
  refine hp.mono ?_
  rintro e w1 ⟨rfl, b1⟩
  have b2 := b0.trans (b1.mono b0.size)
  have x1 := x0.keep b1 x0.lt
  clear b0 b1 hp x0
  have x1' := x1
  obtain ⟨y0, y1, y2, y3, y4, y5, y6, -, -, -, -, -, -, -⟩ := x1
  go_wp2_with fail
  refine (size_any3 s k p r a t h p0 p1 r0 (by omega) _).mono ?_
  rintro e w2 ⟨rfl, hw2⟩
  have b3 : Below w.heap.size w w2 := by rw [hw2]; exact Below.alloc b2 b2.size _
  have x2 : w2.cell? ⟨w.heap.size, 0, none⟩ = some (.int .u64 s) := by
    rw [hw2]; exact (x1'.keep (Below.alloc (Below.refl _ _) (Nat.le_refl _) _) x1'.lt).h0
  have hwl : w.heap.size < w2.heap.size := World.block_lt_of_cell? _ _ x2
  clear hw2 b2 y0 y1 y2 y3 y4 y5 y6 x1'
  go_wp2_with fail
  refine (Ht.out w2 (HA.out.below b3)).mono ?_
  rintro e w3 ⟨rfl, hA3, t3⟩
  have x3 : w3.cell? ⟨w.heap.size, 0, none⟩ = some (.int .u64 s) := by
    rw [World.cell?_of_block (w := w2) (t3.block _ hwl (by simp; omega))]; exact x2
  have t4 : Touch [b, g] w w3 := (Touch.of_below b3 _).trans t3
  have HA3 : Hid (Ar w3 b g c (x.put S (q + n)) sw (zer ws q n)) := hA3
  clear hA3 t3 b3 x2
  go_wp2_with fail
  refine (Hw.out w3 HA3.out).mono ?_
  rintro e w4 ⟨rfl, hA4, t5⟩
  have HA4 : Hid (Ar w4 b g c (x.put S (q + n)) sw (putw ws q n wd s)) := hA4
  have t6 := t4.then t5 (fun x h => .inl (by simp at h; simp [h]))
  clear hA4 t5 t4 x3
  go_wp2
  go_ret2
  exact ⟨rfl, HA4.out, t6⟩

end Go.Proofs.YtpiemfchjlihfaaGreatDoor
