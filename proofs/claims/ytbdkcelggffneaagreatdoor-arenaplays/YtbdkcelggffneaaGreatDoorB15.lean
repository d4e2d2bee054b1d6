/-
  The document's arena: a head written anew.
-/
import Derived.Test.YtbdkcelggffneaaGreatDoorB14
set_option linter.unusedVariables false
set_option maxRecDepth 20000
namespace Go.Proofs.YtbdkcelggffneaaGreatDoor
open Go.RowKit Go.Shelf

section
variable (b : Nat) (g : Nat → Nat) (c : Cfg) (x : Tps) (sw : Bool) (ws : Nat → Int)

set_option maxHeartbeats 4000000 in
theorem rsetHead_no (a s k p r ag t : Int) (h : Bool) (hno : ¬ (At c x ws a ∧ flt k p r ag t = 0 ∧ ptOf (wat c ws a) = p ∧ rwOf (wat c ws a) = r)) (hw : Wd (wat c ws a)) (w : World) (hA : Ra w b g c x sw ws) :
    Calls Tryz.prog 65 #[.pointer (some ⟨b, 0, none⟩), .int .i64 a, hv s k p r ag t h] w fun e w' => e = .returned (.bool false) ∧ Below w.heap.size w w' := by
  have hX := Box.new w 31 (.int .u64 s) (.int .i64 k) (.int .i64 p) (.int .i64 r) (.int .i64 ag) (.int .i64 t) (.bool h)
  have b0 : Below w.heap.size w (w.alloc (.cells (hcells s k p r ag t h) 31)) := Below.alloc (Below.refl _ _) (Nat.le_refl _) _
  have hxlt := hX.lt
  by_cases hat : At c x ws a
  · have hh := rhead_at b g c x sw ws a hat hw _ (hA.below b0)
    have hno' : ¬ (flt k p r ag t = 0 ∧ ptOf (wat c ws a) = p ∧ rwOf (wat c ws a) = r) := fun hh => hno ⟨hat, hh⟩
    unfold hdv at hh
    clear hA hno hat hw
    generalize wat c ws (a + 1) = m1 at *
    generalize kdOf (wat c ws a) = K at *
    generalize ptOf (wat c ws a) = P at *
    generalize rwOf (wat c ws a) = R at *
    generalize agOf (wat c ws a) = A at *
    generalize stOf (wat c ws a) = U at *
    generalize hdOf (wat c ws a) = H at *
    go_enter Tryz.func65, Tryz.ntmps65
    go_upto_region 1 with fail
    generalize (w.alloc (.cells (hcells s k p r ag t h) 31)) = w0 at *
    go_wp2_with fail
    refine hh.mono ?_
    rintro e w1 ⟨rfl, l1⟩
    have b1 := b0.trans (l1.mono b0.size)
    have hX1 := hX.keep l1 hxlt
    have hx1 := hX1.lt
    clear hh hX b0 l1 hxlt
    go_upto_region 2 with fail
    have hX2 := hX1.keep (Below.alloc (Below.refl _ _) (Nat.le_refl _) (.cells (hcells m1 K P R A U H) 31)) hx1
    have hY2 := Box.new w1 31 (.int .u64 m1) (.int .i64 K) (.int .i64 P) (.int .i64 R) (.int .i64 A) (.int .i64 U) (.bool H)
    have b2 := Below.alloc b1 b1.size (.cells (hcells m1 K P R A U H) 31)
    clear hX1 b1 hx1
    generalize (w1.alloc (.cells (hcells m1 K P R A U H) 31)) = w2 at *
    have hx2 := hX2.lt
    have hy2 := hY2.lt
    generalize w1.heap.size = B7 at *
    have hX2' := hX2
    obtain ⟨y0, y1, y2, y3, y4, y5, y6, -, -, -, -, -, -, -⟩ := hX2
    go_wp2_with fail
    clear y0 y1 y2 y3 y4 y5 y6
    refine (rpack_any s k p r ag t h w2).mono ?_
    rintro e w3 ⟨rfl, l3⟩
    have b3 := b2.trans (l3.mono b2.size)
    have hX3 := hX2'.keep l3 hx2
    have hY3 := hY2.keep l3 hy2
    clear l3 b2 hX2' hY2 hx2 hy2
    obtain ⟨x0, x1, x2, x3, x4, x5, x6, -, -, -, -, -, -, -⟩ := hX3
    obtain ⟨y0, y1, y2, y3, y4, y5, y6, -, -, -, -, -, -, -⟩ := hY3
    generalize flt k p r ag t = f at *
    generalize pck k p r ag t h = m at *
    by_cases h1 : f = 0
    · subst h1
      by_cases h2 : P = p
      · subst h2
        have h3 : ¬ R = r := fun e => hno' ⟨rfl, rfl, e⟩
        have h3' : (R == r) = false := by simp [h3]
        clear hno'
        go_wp2
        go_ret
        exact ⟨rfl, b3⟩
      · have h2' : (P == p) = false := by simp [h2]
        clear hno'
        go_wp2
        go_ret
        exact ⟨rfl, b3⟩
    · have h1' : (f == 0) = false := by simp [h1]
      clear hno'
      go_wp2
      go_ret
      exact ⟨rfl, b3⟩
  · have hh := rhead_nat b g c x sw ws a hat hw _ (hA.below b0)
    clear hA hno hat hw
    go_enter Tryz.func65, Tryz.ntmps65
    go_upto_region 1 with fail
    generalize (w.alloc (.cells (hcells s k p r ag t h) 31)) = w0 at *
    go_wp2_with fail
    refine hh.mono ?_
    rintro e w1 ⟨rfl, l1⟩
    have b1 := b0.trans (l1.mono b0.size)
    have hX1 := hX.keep l1 hxlt
    have hx1 := hX1.lt
    clear hh hX b0 l1 hxlt
    go_upto_region 2 with fail
    have hX2 := hX1.keep (Below.alloc (Below.refl _ _) (Nat.le_refl _) (.cells (hcells 0 0 0 0 0 0 false) 31)) hx1
    have hY2 := Box.new w1 31 (.int .u64 0) (.int .i64 0) (.int .i64 0) (.int .i64 0) (.int .i64 0) (.int .i64 0) (.bool false)
    have b2 := Below.alloc b1 b1.size (.cells (hcells 0 0 0 0 0 0 false) 31)
    clear hX1 b1 hx1
    generalize (w1.alloc (.cells (hcells 0 0 0 0 0 0 false) 31)) = w2 at *
    have hx2 := hX2.lt
    have hy2 := hY2.lt
    generalize w1.heap.size = B7 at *
    have hX2' := hX2
    obtain ⟨y0, y1, y2, y3, y4, y5, y6, -, -, -, -, -, -, -⟩ := hX2
    go_wp2_with fail
    clear y0 y1 y2 y3 y4 y5 y6
    refine (rpack_any s k p r ag t h w2).mono ?_
    rintro e w3 ⟨rfl, l3⟩
    have b3 := b2.trans (l3.mono b2.size)
    have hX3 := hX2'.keep l3 hx2
    have hY3 := hY2.keep l3 hy2
    clear l3 b2 hX2' hY2 hx2 hy2
    clear hX3 hY3
    generalize flt k p r ag t = f at *
    generalize pck k p r ag t h = m at *
    go_wp2
    go_ret
    exact ⟨rfl, b3⟩

set_option maxHeartbeats 4000000 in
theorem rsetHead_yes (a s k ag t : Int) (h : Bool) (hat : At c x ws a) (hf : flt k (ptOf (wat c ws a)) (rwOf (wat c ws a)) ag t = 0) (hw : Wd (wat c ws a)) (w : World) (hA : Ra w b g c x sw ws) :
    Calls Tryz.prog 65 #[.pointer (some ⟨b, 0, none⟩), .int .i64 a, hv s k (ptOf (wat c ws a)) (rwOf (wat c ws a)) ag t h] w fun e w' => e = .returned (.bool true) ∧ Ra w' b g c x sw (upd (upd ws a.toNat (wrd k (ptOf (wat c ws a)) (rwOf (wat c ws a)) ag t h)) (a + 1).toNat s) ∧ Touch (rft b g) w w' := by
  obtain ⟨p, hp⟩ : ∃ p, p = ptOf (wat c ws a) := ⟨_, rfl⟩
  obtain ⟨r, hr⟩ : ∃ r, r = rwOf (wat c ws a) := ⟨_, rfl⟩
  rw [← hp, ← hr] at hf ⊢
  have hX := Box.new w 31 (.int .u64 s) (.int .i64 k) (.int .i64 p) (.int .i64 r) (.int .i64 ag) (.int .i64 t) (.bool h)
  have b0 : Below w.heap.size w (w.alloc (.cells (hcells s k p r ag t h) 31)) := Below.alloc (Below.refl _ _) (Nat.le_refl _) _
  have hxlt := hX.lt
  have hh := rhead_at b g c x sw ws a hat hw _ (hA.below b0)
  have hin := at_in hA hat
  have hpt := pt_in (wat c ws a)
  have hrw := rw_in (wat c ws a)
  unfold hdv at hh
  rw [← hp, ← hr] at hh hin
  rw [← hp] at hpt
  rw [← hr] at hrw
  have HF : Hid (flt k p r ag t = 0 ∧ pck k p r ag t h = wrd k p r ag t h) := ⟨hf, pck_ok hf⟩
  have H1 : Hid (∀ w1, Below w.heap.size w w1 → Calls Tryz.prog 71 #[.pointer (some ⟨b, 0, none⟩), .int .i64 a, .int .u64 (wrd k p r ag t h)] w1 fun e w' => e = .returned (.bool true) ∧ Ra w' b g c x sw (upd ws a.toNat (wrd k p r ag t h)) ∧ Touch (rft b g) w1 w') := fun w1 l => rsetWord_int b g c x sw ws a _ (by omega) (by omega) w1 (hA.below l)
  have H2 : Hid (∀ w1, Ra w1 b g c x sw (upd ws a.toNat (wrd k p r ag t h)) → Calls Tryz.prog 71 #[.pointer (some ⟨b, 0, none⟩), .int .i64 (a + 1), .int .u64 s] w1 fun e w' => e = .returned (.bool true) ∧ Ra w' b g c x sw (upd (upd ws a.toNat (wrd k p r ag t h)) (a + 1).toNat s) ∧ Touch (rft b g) w1 w') := fun w1 hw => rsetWord_int b g c x sw _ (a + 1) s (by omega) (by omega) w1 hw
  have HL : Hid (∀ z ∈ rft b g, z < w.heap.size) := hA.lt
  have ha1 := hin.1
  have ha2 : a < 262145 := by omega
  clear hA hat hw hf hp hr hin hpt hrw
  generalize wat c ws (a + 1) = m1 at *
  generalize kdOf (wat c ws a) = K at *
  generalize agOf (wat c ws a) = A at *
  generalize stOf (wat c ws a) = U at *
  generalize hdOf (wat c ws a) = H at *
  go_enter Tryz.func65, Tryz.ntmps65
  go_upto_region 1 with fail
  generalize (w.alloc (.cells (hcells s k p r ag t h) 31)) = w0 at *
  go_wp2_with fail
  refine hh.mono ?_
  rintro e w1 ⟨rfl, l1⟩
  have b1 := b0.trans (l1.mono b0.size)
  have hX1 := hX.keep l1 hxlt
  have hx1 := hX1.lt
  clear hh hX b0 l1 hxlt
  go_upto_region 2 with fail
  have hX2 := hX1.keep (Below.alloc (Below.refl _ _) (Nat.le_refl _) (.cells (hcells m1 K p r A U H) 31)) hx1
  have hY2 := Box.new w1 31 (.int .u64 m1) (.int .i64 K) (.int .i64 p) (.int .i64 r) (.int .i64 A) (.int .i64 U) (.bool H)
  have b2 := Below.alloc b1 b1.size (.cells (hcells m1 K p r A U H) 31)
  clear hX1 b1 hx1
  generalize (w1.alloc (.cells (hcells m1 K p r A U H) 31)) = w2 at *
  have hx2 := hX2.lt
  have hy2 := hY2.lt
  generalize w1.heap.size = B7 at *
  have hX2' := hX2
  obtain ⟨y0, y1, y2, y3, y4, y5, y6, -, -, -, -, -, -, -⟩ := hX2
  go_wp2_with fail
  clear y0 y1 y2 y3 y4 y5 y6
  refine (rpack_any s k p r ag t h w2).mono ?_
  rintro e w3 ⟨rfl, l3⟩
  have b3 := b2.trans (l3.mono b2.size)
  have hX3 := hX2'.keep l3 hx2
  have hY3 := hY2.keep l3 hy2
  clear l3 b2 hX2' hY2 hx2 hy2
  rw [HF.out.1, HF.out.2]
  have hX3' := hX3
  have hx3 := hX3.lt
  obtain ⟨x0, x1, x2, x3, x4, x5, x6, -, -, -, -, -, -, -⟩ := hX3
  obtain ⟨y0, y1, y2, y3, y4, y5, y6, -, -, -, -, -, -, -⟩ := hY3
  go_wp2_with fail
  clear x0 x1 x2 x3 x4 x5 x6 y0 y1 y2 y3 y4 y5 y6
  refine (H1.out w3 b3).mono ?_
  rintro e w4 ⟨rfl, hA4, t4⟩
  have hoff : w.heap.size ∉ rft b g := fun hh => Nat.lt_irrefl _ (HL.out _ hh)
  have z4 : w4.cell? ⟨w.heap.size, 0, none⟩ = some (.int .u64 s) := by
    rw [World.cell?_of_block (w := w3) (t4.block _ hx3 hoff)]; exact hX3'.h0
  have T4 : Hid (Touch (rft b g) w w4) := (Touch.of_below b3 _).trans t4
  clear t4 b3 hX3' hx3 H1 hoff
  go_wp2_with fail
  refine (H2.out w4 hA4).mono ?_
  rintro e w5 ⟨rfl, hA5, t5⟩
  have T5 : Hid (Touch (rft b g) w w5) := T4.out.trans t5
  have HA5 : Hid _ := hA5
  clear t5 hA5 hA4 z4 T4 H2
  go_wp2
  go_ret
  exact ⟨rfl, HA5.out, T5.out⟩
end

end Go.Proofs.YtbdkcelggffneaaGreatDoor
