/-
  made, where an object is put.
-/
import Derived.Test.YtbdkcelggffneaaDoorHN
set_option linter.unusedVariables false
namespace Go.Proofs.YtbdkcelggffneaaDoor
open Go.RowKit Go.Shelf

/-- A thing as its cells. -/
abbrev tcells (at_ sp s k p r a t : Int) (h : Bool) (vp vr : Value) : Array Value := #[.int .i64 at_, .int .i64 sp, .int .u64 s, .int .i64 k, .int .i64 p, .int .i64 r, .int .i64 a, .int .i64 t, .bool h, vp, vr]

abbrev lfoot (b g : Nat) (v : Value) : List Nat := b :: g :: v.ownBlock.toList

theorem Tryd.infoThing : (Tryd.prog.info? 81).map (fun i => (i.zero, i.size, i.bytes)) = some (some (.agg (tcells 0 0 0 0 0 0 0 0 false (.slice none 0 0) (.slice none 0 0))), 11, 120) := by kernel_rfl

/-- Block R holds a thing. -/
structure Tc (w : World) (R : Nat) (cs : Array Value) : Prop where
  at_ : w.heap[R]? = some (.cells cs 81 (0, 0))

theorem Tc.lt {w : World} {R : Nat} {cs : Array Value} (h : Tc w R cs) : R < w.heap.size := (Array.getElem?_eq_some_iff.1 h.at_).1
theorem Tc.cell {w : World} {R : Nat} {cs : Array Value} (h : Tc w R cs) (j : Nat) : w.cell? ⟨R, j, none⟩ = cs[j]? := cell_of_row _ _ j _ _ _ h.at_
theorem Tc.frozen {w : World} {R : Nat} {cs : Array Value} (h : Tc w R cs) (j : Nat) : w.frozen? ⟨R, j, none⟩ = false := by unfold World.frozen?; simp only [h.at_]; simp
theorem Tc.set {w : World} {R : Nat} {cs : Array Value} (h : Tc w R cs) (j : Nat) (v : Value) (o : Obj) : Tc ((w.alloc o).setCell ⟨R, j, none⟩ v) R (cs.set! j v) := ⟨by
  have h1 : (w.alloc o).heap[R]? = some (.cells cs 81 (0, 0)) := (Below.heap_alloc _ _ _ h.lt).trans h.at_
  simp [World.setCell, Array.getElem?_modify, h1]⟩

theorem Tc.alloc {w : World} {R : Nat} {cs : Array Value} (h : Tc w R cs) (o : Obj) : Tc (w.alloc o) R cs := ⟨(Below.heap_alloc _ _ _ h.lt).trans h.at_⟩

theorem own_ne {w : World} {b g : Nat} {c : Cfg} {x : Tps} {sw : Bool} {ws : Nat → Int} {v : Value} {L : Nat} {xs : List Value} (h : Ar w b g c x sw ws) (hr : w.ownsRow 0 81 11 v L xs) : some b ≠ v.ownBlock ∧ some g ≠ v.ownBlock := by
  obtain ⟨cs, h1, -, -⟩ := h.own
  obtain ⟨ds, h2, -, -⟩ := h.row
  exact ⟨row_ne h1 hr (by decide), row_ne h2 hr (by decide)⟩

theorem ar_lt {w : World} {b g : Nat} {c : Cfg} {x : Tps} {sw : Bool} {ws : Nat → Int} (h : Ar w b g c x sw ws) : b < w.heap.size ∧ g < w.heap.size := ⟨h.own.lt, h.row.lt⟩

theorem row_slice {w : World} {base n e size : Nat} {v : Value} {xs : List Value} (h : w.ownsRow base e size v n xs) : ∃ ad l m, v = .slice ad l m := by
  rcases h.2 with ⟨rfl, _⟩ | ⟨g, cap, cur, rfl, _⟩
  · exact ⟨_, _, _, rfl⟩
  · exact ⟨_, _, _, rfl⟩

theorem alloc_set_other {w : World} {R j : Nat} {v : Value} {o : Obj} (k : Nat) (hk : k < w.heap.size) (hR : k ≠ R) : ((w.alloc o).setCell ⟨R, j, none⟩ v).heap[k]? = w.heap[k]? :=
  (Below.heap_setCell _ _ _ _ hR).trans (Below.heap_alloc _ _ _ hk)

set_option maxHeartbeats 4000000 in
theorem made_yes (b g : Nat) (c : Cfg) (x : Tps) (sw : Bool) (ws : Nat → Int) (lv : Value) (L : Nat) (xs : List Value) (hl : L < 4294967296) (K S N B C W s k p r a t : Int) (h : Bool) (hs : Wd s) (hf : flt k p r a t = 0) (q n : Nat) (hq : x.top S = q) (hn : (n : Int) = 2 + p + r) (hle : (q : Int) + n ≤ bhd c S) (w : World) (hrow : w.ownsRow 0 81 11 lv L xs) (hA : Ar w b g c x sw ws) (hLd : Laid w) (hS : 1 ≤ S ∧ S ≤ 4) (hT : (x.put S (q + n)).top S = q + n) :
    Calls Tryd.prog 18 #[.pointer (some ⟨b, 0, none⟩), lv, dv K S N B C W s k p r a t h] w fun e w' => ∃ v' gp gr, e = .returned (.tuple #[v', .bool true]) ∧
      w'.ownsRow 0 81 11 v' (L + 1) (xs ++ (tcells q S s k p r a t h (.slice (some ⟨gp, 0, none⟩) p.toNat p.toNat) (.slice (some ⟨gr, 0, none⟩) r.toNat r.toNat)).toList) ∧
      w'.heap[gp]? = some (.cells (madeCells #[.int .i64 0] p.toNat) 3 (0, 0)) ∧ w'.heap[gr]? = some (.cells (madeCells #[.int .u64 0] r.toNat) 38 (0, 0)) ∧ w.heap.size ≤ gp ∧ gp < gr ∧
      Ar w' b g c (x.put S (q + n)) sw (putw ws q n (wrd k p r a t h) s) ∧ Touch (lfoot b g lv) w w' ∧ (v'.ownBlock = lv.ownBlock ∨ ∃ y, v'.ownBlock = some y ∧ w.heap.size ≤ y) := by
  have b0 : Below w.heap.size w (w.alloc (.cells (dcells K S N B C W s k p r a t h) 48)) := Below.alloc (Below.refl _ _) (Nat.le_refl _) _
  have d0 := Dc.new w (dcells K S N B C W s k p r a t h)
  have HA : Hid (Ar w b g c x sw ws) := hA
  have HL : Hid (Laid w) := hLd
  have HR : Hid (w.ownsRow 0 81 11 lv L xs) := hrow
  have HB : Hid (b < w.heap.size ∧ g < w.heap.size) := ar_lt hA
  have HE : Hid (some b ≠ lv.ownBlock ∧ some g ≠ lv.ownBlock) := own_ne hA hrow
  have m := May.of hf
  have Hp : Hid (∀ w1, Below w.heap.size w w1 → Calls Tryd.prog 26 #[.pointer (some ⟨b, 0, none⟩), .int .i64 S, hv s k p r a t h] w1 fun e w' => e = .returned (.tuple #[.int .i64 q, .bool true]) ∧ Ar w' b g c (x.put S (q + n)) sw (putw ws q n (wrd k p r a t h) s) ∧ Touch [b, g] w1 w') := fun w1 l => put_yes b g c x sw ws S s k p r a t h hs hf q n hq hn hle w1 (HA.out.below l) (HL.out.keep l)
  clear hA hLd hrow hf
  have ht := top_any b g c x sw ws S _ (HA.out.below b0)
  have k1 : (w.alloc (.cells (dcells K S N B C W s k p r a t h) 48)).cell? ⟨w.heap.size, 1, none⟩ = some (.int .i64 S) := d0.cell 1
  rw [hq] at ht
  obtain ⟨ad, ln, mm, rfl⟩ : ∃ ad n m, lv = .slice ad n m := row_slice HR.out
  go_enter Tryd.func18, Tryd.ntmps18
  go_wp2_with fail
  refine ht.mono ?_
  rintro e w1 ⟨rfl, l1⟩
  have d1 := d0.below l1
  have b1 := b0.trans (l1.mono b0.size)
  clear ht k1 d0 b0 l1
  have hf := free_any b g c x sw ws S _ (HA.out.below b1)
  rw [hq] at hf
  have k1 : w1.cell? ⟨w.heap.size, 1, none⟩ = some (.int .i64 S) := d1.cell 1
  go_wp2_with fail
  refine hf.mono ?_
  rintro e w2 ⟨rfl, l2⟩
  have d2 := d1.below l2
  have b2 := b1.trans (l2.mono b1.size)
  clear hf k1 d1 b1 l2
  have k1 : w2.cell? ⟨w.heap.size, 1, none⟩ = some (.int .i64 S) := d2.cell 1
  have k6 : w2.cell? ⟨w.heap.size, 6, none⟩ = some (.int .u64 s) := d2.cell 6
  have k7 : w2.cell? ⟨w.heap.size, 7, none⟩ = some (.int .i64 k) := d2.cell 7
  have k8 : w2.cell? ⟨w.heap.size, 8, none⟩ = some (.int .i64 p) := d2.cell 8
  have k9 : w2.cell? ⟨w.heap.size, 9, none⟩ = some (.int .i64 r) := d2.cell 9
  have k10 : w2.cell? ⟨w.heap.size, 10, none⟩ = some (.int .i64 a) := d2.cell 10
  have k11 : w2.cell? ⟨w.heap.size, 11, none⟩ = some (.int .i64 t) := d2.cell 11
  have k12 : w2.cell? ⟨w.heap.size, 12, none⟩ = some (.bool h) := d2.cell 12
  go_wp2_with fail
  clear k1 k6 k7 k8 k9 k10 k11 k12
  refine (Hp.out w2 b2).mono ?_
  rintro e w3 ⟨rfl, a3, t3⟩
  have d3 : Dc w3 w.heap.size (dcells K S N B C W s k p r a t h) := ⟨(t3.block _ d2.lt (by have := HB.out; simp; omega)).trans d2.at_⟩
  have t4 : Touch (lfoot b g (.slice ad ln mm)) w w3 := (Touch.of_below b2 _).then t3 (by intro y hy; simp at hy; left; simp [lfoot]; omega)
  have hr3 : w3.ownsRow 0 81 11 (.slice ad ln mm) L xs := row_keep HR.out (fun y hy => (t3.block y (Nat.lt_of_lt_of_le (row_lt HR.out y hy) b2.size) (by
    have h1 := HE.out
    rw [hy] at h1
    simp at h1 ⊢
    omega)).trans (b2.block y (row_lt HR.out y hy)))
  have HA3 : Hid (Ar w3 b g c (x.put S (q + n)) sw (putw ws q n (wrd k p r a t h) s)) := a3
  have HR3 : Hid (w3.ownsRow 0 81 11 (.slice ad ln mm) L xs) := hr3
  have HT4 : Hid (Touch (lfoot b g (.slice ad ln mm)) w w3) := t4
  clear d2 b2 t3 a3 hr3 t4
  have ht := top_any b g c _ sw _ S _ HA3.out
  rw [hT, hn] at ht
  have k1 : w3.cell? ⟨w.heap.size, 1, none⟩ = some (.int .i64 S) := d3.cell 1
  have k8 : w3.cell? ⟨w.heap.size, 8, none⟩ = some (.int .i64 p) := d3.cell 8
  have k9 : w3.cell? ⟨w.heap.size, 9, none⟩ = some (.int .i64 r) := d3.cell 9
  obtain ⟨hp0, hp1, hr0, hr1⟩ : 0 ≤ p ∧ p ≤ 4095 ∧ 0 ≤ r ∧ r ≤ 65535 := ⟨m.p0, m.p1, m.r0, m.r1⟩
  have hq0 : (q : Int) ≤ 262145 := by
    have := (HA.out.sub_in S); have := HA.out.words; omega
  have hbq : bhd c S ≤ 262145 := by
    have := (HA.out.sub_in S); have := HA.out.words; omega
  go_wp2_with fail
  refine ht.mono ?_
  rintro e w4 ⟨rfl, l4⟩
  have d4 := d3.below l4
  have HA4 : Hid (Ar w4 b g c (x.put S (q + n)) sw (putw ws q n (wrd k p r a t h) s)) := HA3.out.below l4
  have HR4 : Hid (w4.ownsRow 0 81 11 (.slice ad ln mm) L xs) := row_keep HR3.out (fun y hy => l4.block y (row_lt HR3.out y hy))
  have HT5 : Hid (Touch (lfoot b g (.slice ad ln mm)) w w4) := HT4.out.trans (Touch.of_below l4 _)
  clear ht k1 k8 k9 d3 l4 HA3 HR3 HT4
  have hf := free_any b g c _ sw _ S _ HA4.out
  rw [hT, hn, show bhd c S - ((q : Int) + (2 + p + r)) = bhd c S - q - (2 + p + r) by omega] at hf
  have k1 : w4.cell? ⟨w.heap.size, 1, none⟩ = some (.int .i64 S) := d4.cell 1
  go_wp2_with fail
  refine hf.mono ?_
  rintro e w5 ⟨rfl, l5⟩
  have d5 := d4.below l5
  have HA5 : Hid (Ar w5 b g c (x.put S (q + n)) sw (putw ws q n (wrd k p r a t h) s)) := HA4.out.below l5
  have HR5 : Hid (w5.ownsRow 0 81 11 (.slice ad ln mm) L xs) := row_keep HR4.out (fun y hy => l5.block y (row_lt HR4.out y hy))
  have HT6 : Hid (Touch (lfoot b g (.slice ad ln mm)) w w5) := HT5.out.trans (Touch.of_below l5 _)
  clear hf k1 d4 l5 HA4 HR4 HT5
  have k1 : w5.cell? ⟨w.heap.size, 1, none⟩ = some (.int .i64 S) := d5.cell 1
  have k6 : w5.cell? ⟨w.heap.size, 6, none⟩ = some (.int .u64 s) := d5.cell 6
  have k7 : w5.cell? ⟨w.heap.size, 7, none⟩ = some (.int .i64 k) := d5.cell 7
  have k8 : w5.cell? ⟨w.heap.size, 8, none⟩ = some (.int .i64 p) := d5.cell 8
  have k9 : w5.cell? ⟨w.heap.size, 9, none⟩ = some (.int .i64 r) := d5.cell 9
  have k10 : w5.cell? ⟨w.heap.size, 10, none⟩ = some (.int .i64 a) := d5.cell 10
  have k11 : w5.cell? ⟨w.heap.size, 11, none⟩ = some (.int .i64 t) := d5.cell 11
  have k12 : w5.cell? ⟨w.heap.size, 12, none⟩ = some (.bool h) := d5.cell 12
  obtain ⟨hS1, hS4⟩ := hS
  go_upto_region 9 with fail
  go_upto_region 10 with fail
  clear k1 k6 k7 k8 k9 k10 k11 k12
  have c6 : Tc (w5.alloc (.cells (tcells q S s k p r a t h (.slice none 0 0) (.slice none 0 0)) 81)) w5.heap.size (tcells q S s k p r a t h (.slice none 0 0) (.slice none 0 0)) := ⟨heap_alloc_new w5 _⟩
  have b6 : Below w5.heap.size w5 (w5.alloc (.cells (tcells q S s k p r a t h (.slice none 0 0) (.slice none 0 0)) 81)) := Below.alloc (Below.refl _ _) (Nat.le_refl _) _
  have d6 := d5.below b6
  have HA6 : Hid (Ar _ b g c (x.put S (q + n)) sw (putw ws q n (wrd k p r a t h) s)) := HA5.out.below b6
  have HR6 : Hid (World.ownsRow _ 0 81 11 (.slice ad ln mm) L xs) := row_keep HR5.out (fun y hy => b6.block y (row_lt HR5.out y hy))
  have HT7 : Hid (Touch (lfoot b g (.slice ad ln mm)) w _) := HT6.out.trans (Touch.of_below b6 _)
  have HD5 : Hid (w.heap.size < w5.heap.size) := d5.lt
  have HN5 : Hid (∀ y, (Value.slice ad ln mm).ownBlock = some y → y < w5.heap.size) := fun y hy => row_lt HR5.out y hy
  clear d5 b6 HA5 HR5 HT6
  generalize w5.alloc (.cells (tcells q S s k p r a t h (.slice none 0 0) (.slice none 0 0)) 81) = w6 at *
  generalize w5.heap.size = TB at *
  obtain ⟨i0, hi0, hz0, hz1, hz2⟩ := info_parts Tryd.infoInt
  have hmk : ∀ w, (Instr.makeSlice 24 (.int .i64 p) (.int .i64 p)).run Tryd.prog w = .ok (.slice (some ⟨w.heap.size, 0, none⟩) p.toNat p.toNat) (w.alloc (.cells (madeCells #[.int .i64 0] p.toNat) 3)) := fun w => by
    have := run_make (P := Tryd.prog) w 24 3 i0 (.int .i64 0) Tryd.underlying24 hi0 hz0 .i64 .i64 p p hp0 (Int.le_refl _) (by rw [hz2]; omega) (by omega)
    rw [hz1, Nat.mul_one] at this
    exact this
  clear hi0 hz0 hz1 hz2
  have k8 : w6.cell? ⟨w.heap.size, 8, none⟩ = some (.int .i64 p) := d6.cell 8
  have y9 : (w6.alloc (.cells (madeCells #[.int .i64 0] p.toNat) 3)).cell? ⟨TB, 9, none⟩ = some (.slice none 0 0) := (c6.alloc _).cell 9
  have z9 : (w6.alloc (.cells (madeCells #[.int .i64 0] p.toNat) 3)).frozen? ⟨TB, 9, none⟩ = false := (c6.alloc _).frozen 9
  go_upto_region 11 with fail
  clear k8 y9 z9 hmk
  have oth : ∀ y, y < w6.heap.size → y ≠ TB → ((w6.alloc (.cells (madeCells #[.int .i64 0] p.toNat) 3)).setCell ⟨TB, 9, none⟩ (.slice (some ⟨w6.heap.size, 0, none⟩) p.toNat p.toNat)).heap[y]? = w6.heap[y]? := fun y h1 h2 => alloc_set_other y h1 h2
  have c7 := c6.set 9 (.slice (some ⟨w6.heap.size, 0, none⟩) p.toNat p.toNat) (.cells (madeCells #[.int .i64 0] p.toNat) 3)
  have Gp : Hid (((w6.alloc (.cells (madeCells #[.int .i64 0] p.toNat) 3)).setCell ⟨TB, 9, none⟩ (.slice (some ⟨w6.heap.size, 0, none⟩) p.toNat p.toNat)).heap[w6.heap.size]? = some (.cells (madeCells #[.int .i64 0] p.toNat) 3 (0, 0))) := (Below.heap_setCell _ _ _ _ (by have := c6.lt; show w6.heap.size ≠ TB; omega)).trans (heap_alloc_new w6 _)
  have sz7 : ((w6.alloc (.cells (madeCells #[.int .i64 0] p.toNat) 3)).setCell ⟨TB, 9, none⟩ (.slice (some ⟨w6.heap.size, 0, none⟩) p.toNat p.toNat)).heap.size = w6.heap.size + 1 := by simp [World.setCell]
  have d7 : Dc ((w6.alloc (.cells (madeCells #[.int .i64 0] p.toNat) 3)).setCell ⟨TB, 9, none⟩ (.slice (some ⟨w6.heap.size, 0, none⟩) p.toNat p.toNat)) w.heap.size (dcells K S N B C W s k p r a t h) := ⟨(oth _ d6.lt (by have := HD5.out; omega)).trans d6.at_⟩
  have HA7 : Hid (Ar ((w6.alloc (.cells (madeCells #[.int .i64 0] p.toNat) 3)).setCell ⟨TB, 9, none⟩ (.slice (some ⟨w6.heap.size, 0, none⟩) p.toNat p.toNat)) b g c (x.put S (q + n)) sw (putw ws q n (wrd k p r a t h) s)) := HA6.out.keep (oth b (by have := HB.out; have := HD5.out; have := c6.lt; omega) (by have := HB.out; have := HD5.out; omega)) (oth g (by have := HB.out; have := HD5.out; have := c6.lt; omega) (by have := HB.out; have := HD5.out; omega))
  have HR7 : Hid (World.ownsRow ((w6.alloc (.cells (madeCells #[.int .i64 0] p.toNat) 3)).setCell ⟨TB, 9, none⟩ (.slice (some ⟨w6.heap.size, 0, none⟩) p.toNat p.toNat)) 0 81 11 (.slice ad ln mm) L xs) := row_keep HR6.out (fun y hy => oth y (row_lt HR6.out y hy) (by have := HN5.out y hy; omega))
  have HT8 : Hid (Touch (lfoot b g (.slice ad ln mm)) w ((w6.alloc (.cells (madeCells #[.int .i64 0] p.toNat) 3)).setCell ⟨TB, 9, none⟩ (.slice (some ⟨w6.heap.size, 0, none⟩) p.toNat p.toNat))) := HT7.out.then ((Touch.alloc [TB] _ _).trans (Touch.setCell _ _ _ (by simp))) (by intro y hy; simp at hy; right; have := HD5.out; omega)
  have G6 : Hid (TB < w6.heap.size) := c6.lt
  clear oth c6 d6 HA6 HR6 HT7
  generalize ((w6.alloc (.cells (madeCells #[.int .i64 0] p.toNat) 3)).setCell ⟨TB, 9, none⟩ (.slice (some ⟨w6.heap.size, 0, none⟩) p.toNat p.toNat)) = w7 at *
  generalize w6.heap.size = gp at *
  have c7' : Tc w7 TB (tcells q S s k p r a t h (.slice (some ⟨gp, 0, none⟩) p.toNat p.toNat) (.slice none 0 0)) := by simpa using c7
  clear c7
  obtain ⟨i0, hi0, hz0, hz1, hz2⟩ := info_parts Tryd.infoU64
  have hmk : ∀ w, (Instr.makeSlice 68 (.int .i64 r) (.int .i64 r)).run Tryd.prog w = .ok (.slice (some ⟨w.heap.size, 0, none⟩) r.toNat r.toNat) (w.alloc (.cells (madeCells #[.int .u64 0] r.toNat) 38)) := fun w => by
    have := run_make (P := Tryd.prog) w 68 38 i0 (.int .u64 0) Tryd.underlying68 hi0 hz0 .i64 .i64 r r hr0 (Int.le_refl _) (by rw [hz2]; omega) (by omega)
    rw [hz1, Nat.mul_one] at this
    exact this
  clear hi0 hz0 hz1 hz2
  have k9 : w7.cell? ⟨w.heap.size, 9, none⟩ = some (.int .i64 r) := d7.cell 9
  have y9 : (w7.alloc (.cells (madeCells #[.int .u64 0] r.toNat) 38)).cell? ⟨TB, 10, none⟩ = some (.slice none 0 0) := (c7'.alloc _).cell 10
  have z9 : (w7.alloc (.cells (madeCells #[.int .u64 0] r.toNat) 38)).frozen? ⟨TB, 10, none⟩ = false := (c7'.alloc _).frozen 10
  have sz7' : Hid (w7.heap.size = gp + 1) := sz7
  clear sz7
  go_upto_region 12 with fail
  clear k9 y9 z9 hmk
  have oth : ∀ y, y < w7.heap.size → y ≠ TB → ((w7.alloc (.cells (madeCells #[.int .u64 0] r.toNat) 38)).setCell ⟨TB, 10, none⟩ (.slice (some ⟨w7.heap.size, 0, none⟩) r.toNat r.toNat)).heap[y]? = w7.heap[y]? := fun y h1 h2 => alloc_set_other y h1 h2
  have c8 := c7'.set 10 (.slice (some ⟨w7.heap.size, 0, none⟩) r.toNat r.toNat) (.cells (madeCells #[.int .u64 0] r.toNat) 38)
  have Gr : Hid (((w7.alloc (.cells (madeCells #[.int .u64 0] r.toNat) 38)).setCell ⟨TB, 10, none⟩ (.slice (some ⟨w7.heap.size, 0, none⟩) r.toNat r.toNat)).heap[w7.heap.size]? = some (.cells (madeCells #[.int .u64 0] r.toNat) 38 (0, 0))) := (Below.heap_setCell _ _ _ _ (by have := c7'.lt; show w7.heap.size ≠ TB; omega)).trans (heap_alloc_new w7 _)
  have Gp8 : Hid (((w7.alloc (.cells (madeCells #[.int .u64 0] r.toNat) 38)).setCell ⟨TB, 10, none⟩ (.slice (some ⟨w7.heap.size, 0, none⟩) r.toNat r.toNat)).heap[gp]? = some (.cells (madeCells #[.int .i64 0] p.toNat) 3 (0, 0))) := (oth gp (by have := sz7'.out; omega) (by have := G6.out; omega)).trans Gp.out
  have HA8 : Hid (Ar ((w7.alloc (.cells (madeCells #[.int .u64 0] r.toNat) 38)).setCell ⟨TB, 10, none⟩ (.slice (some ⟨w7.heap.size, 0, none⟩) r.toNat r.toNat)) b g c (x.put S (q + n)) sw (putw ws q n (wrd k p r a t h) s)) := HA7.out.keep (oth b (by have := HB.out; have := HD5.out; have := c7'.lt; omega) (by have := HB.out; have := HD5.out; omega)) (oth g (by have := HB.out; have := HD5.out; have := c7'.lt; omega) (by have := HB.out; have := HD5.out; omega))
  have HR8 : Hid (World.ownsRow ((w7.alloc (.cells (madeCells #[.int .u64 0] r.toNat) 38)).setCell ⟨TB, 10, none⟩ (.slice (some ⟨w7.heap.size, 0, none⟩) r.toNat r.toNat)) 0 81 11 (.slice ad ln mm) L xs) := row_keep HR7.out (fun y hy => oth y (row_lt HR7.out y hy) (by have := HN5.out y hy; omega))
  have HT9 : Hid (Touch (lfoot b g (.slice ad ln mm)) w ((w7.alloc (.cells (madeCells #[.int .u64 0] r.toNat) 38)).setCell ⟨TB, 10, none⟩ (.slice (some ⟨w7.heap.size, 0, none⟩) r.toNat r.toNat))) := HT8.out.then ((Touch.alloc [TB] _ _).trans (Touch.setCell _ _ _ (by simp))) (by intro y hy; simp at hy; right; have := HD5.out; omega)
  have G7 : Hid (gp < w7.heap.size) := by show _ < _; have := sz7'.out; omega
  clear oth c7' d7 HA7 HR7 HT8 Gp sz7'
  generalize ((w7.alloc (.cells (madeCells #[.int .u64 0] r.toNat) 38)).setCell ⟨TB, 10, none⟩ (.slice (some ⟨w7.heap.size, 0, none⟩) r.toNat r.toNat)) = w8 at *
  generalize w7.heap.size = gr at *
  have c8' : Tc w8 TB (tcells q S s k p r a t h (.slice (some ⟨gp, 0, none⟩) p.toNat p.toNat) (.slice (some ⟨gr, 0, none⟩) r.toNat r.toNat)) := by simpa using c8
  clear c8
  have y0 : w8.cell? ⟨TB, 0, none⟩ = some (.int .i64 q) := c8'.cell 0
  have y1 : w8.cell? ⟨TB, 1, none⟩ = some (.int .i64 S) := c8'.cell 1
  have y2 : w8.cell? ⟨TB, 2, none⟩ = some (.int .u64 s) := c8'.cell 2
  have y3 : w8.cell? ⟨TB, 3, none⟩ = some (.int .i64 k) := c8'.cell 3
  have y4 : w8.cell? ⟨TB, 4, none⟩ = some (.int .i64 p) := c8'.cell 4
  have y5 : w8.cell? ⟨TB, 5, none⟩ = some (.int .i64 r) := c8'.cell 5
  have y6 : w8.cell? ⟨TB, 6, none⟩ = some (.int .i64 a) := c8'.cell 6
  have y7 : w8.cell? ⟨TB, 7, none⟩ = some (.int .i64 t) := c8'.cell 7
  have y8 : w8.cell? ⟨TB, 8, none⟩ = some (.bool h) := c8'.cell 8
  have y9 : w8.cell? ⟨TB, 9, none⟩ = some (.slice (some ⟨gp, 0, none⟩) p.toNat p.toNat) := c8'.cell 9
  have y10 : w8.cell? ⟨TB, 10, none⟩ = some (.slice (some ⟨gr, 0, none⟩) r.toNat r.toNat) := c8'.cell 10
  obtain ⟨i0, hi, hz0, hz1, hz2⟩ := info_parts Tryd.infoThing
  go_wp2_with (at_builtin; refine wpList_append_own_at _ rfl _ _ 44 rfl 0 81 i0 _ 11 120 Tryd.underlying44 hi hz0 hz1 hz2 rfl (by decide) _ _ _ rfl (HR8.out.alloc _) ⟨w8.heap.size, 0, none⟩ 1 1 (tcells q S s k p r a t h (.slice (some ⟨gp, 0, none⟩) p.toNat p.toNat) (.slice (some ⟨gr, 0, none⟩) r.toNat r.toNat)).toList rfl rfl (cells_new _ _ _) (by simp [Value.oneCell']) (by simp [maxLen]; omega) (by omega) (by omega) ?_)
  intro v' w9 rw9 hgrow _ hat
  clear y0 y1 y2 y3 y4 y5 y6 y7 y8 y9 y10 hi hz0 hz1 hz2
  have kb : ∀ y, y < w8.heap.size → some y ≠ (Value.slice ad ln mm).ownBlock → w9.heap[y]? = w8.heap[y]? := fun y hy hn => (hgrow.block y (by simp; omega) hn).trans (Below.heap_alloc _ _ _ hy)
  have hgr : gr < w8.heap.size := (Array.getElem?_eq_some_iff.1 Gr.out).1
  have hgp : gp < w8.heap.size := (Array.getElem?_eq_some_iff.1 Gp8.out).1
  have HF : Hid (w9.heap[gp]? = some (.cells (madeCells #[.int .i64 0] p.toNat) 3 (0, 0)) ∧ w9.heap[gr]? = some (.cells (madeCells #[.int .u64 0] r.toNat) 38 (0, 0)) ∧ w.heap.size ≤ gp ∧ gp < gr ∧
      Ar w9 b g c (x.put S (q + n)) sw (putw ws q n (wrd k p r a t h) s) ∧ Touch (lfoot b g (.slice ad ln mm)) w w9 ∧ (v'.ownBlock = (Value.slice ad ln mm).ownBlock ∨ ∃ y, v'.ownBlock = some y ∧ w.heap.size ≤ y)) := by
    have e1 := HB.out
    have e2 := HD5.out
    have e3 := G6.out
    have e4 := G7.out
    have e5 := HT9.out.size
    refine ⟨(kb gp hgp (fun e => ?_)).trans Gp8.out, (kb gr hgr (fun e => ?_)).trans Gr.out, by omega, e4, HA8.out.keep (kb b (by omega) HE.out.1) (kb g (by omega) HE.out.2), (HT9.out.trans (Touch.alloc _ _ _)).trans ⟨hgrow.os, hgrow.tape, hgrow.output, hgrow.size, fun y hy hn => hgrow.block y hy (fun e => hn ?_)⟩, ?_⟩
    · have := HN5.out gp e.symm; omega
    · have := HN5.out gr e.symm; omega
    · simp [lfoot, ← e]
    · rcases hat with e | e
      · exact .inl e
      · exact .inr ⟨_, e, by first | omega | (simp; omega)⟩
  clear hgrow hat kb hgr hgp Gr Gp8 HA8 HR8 HT9 c8'
  obtain ⟨g9, cap9, rfl⟩ := ownsRow_succ rw9
  go_wp2
  go_returns
  exact ⟨_, gp, gr, rfl, rw9, HF.out⟩

end Go.Proofs.YtbdkcelggffneaaDoor
