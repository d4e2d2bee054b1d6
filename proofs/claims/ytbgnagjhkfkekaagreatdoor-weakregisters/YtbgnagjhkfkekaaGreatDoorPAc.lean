import Derived.Test.YtbgnagjhkfkekaaGreatDoorPAb
import Derived.Deep.CutRange
/-
  Objects where they stand.
-/
set_option linter.unusedVariables false
namespace Go.Proofs.YtbgnagjhkfkekaaGreatDoor
open Go.RowKit

theorem Laid.blocks {w w' : World} (h : Laid w) (h0 : w'.heap[1]? = w.heap[1]?) (h1 : w'.heap[0]? = w.heap[0]?) : Laid w' := by
  have k0 : ∀ j v, w.cell? ⟨1, j, none⟩ = some v → w'.cell? ⟨1, j, none⟩ = some v := fun j v hc => (World.cell?_of_block (w := w) (by exact h0)).trans hc
  have k1 : ∀ j v, w.cell? ⟨0, j, none⟩ = some v → w'.cell? ⟨0, j, none⟩ = some v := fun j v hc => (World.cell?_of_block (w := w) (by exact h1)).trans hc
  obtain ⟨⟨a0, a1, a2, a3, a4, a5, a6, a7, a8⟩, ⟨b0, b1, b2, b3, b4, b5, b6, b7, b8, b9⟩⟩ := h
  exact ⟨⟨k0 _ _ a0, k0 _ _ a1, k0 _ _ a2, k0 _ _ a3, k0 _ _ a4, k0 _ _ a5, k0 _ _ a6, k0 _ _ a7, k0 _ _ a8⟩, ⟨k1 _ _ b0, k1 _ _ b1, k1 _ _ b2, k1 _ _ b3, k1 _ _ b4, k1 _ _ b5, k1 _ _ b6, k1 _ _ b7, k1 _ _ b8, k1 _ _ b9⟩⟩

theorem Laid.lt0 {w : World} (h : Laid w) : 1 < w.heap.size := World.block_lt_of_cell? _ _ h.b.1
theorem Laid.lt1 {w : World} (h : Laid w) : 0 < w.heap.size := World.block_lt_of_cell? _ _ h.k.1

theorem Laid.touch {w w' : World} {F : List Nat} (h : Laid w) (t : Touch F w w') (h0 : 1 ∉ F) (h1 : 0 ∉ F) : Laid w' :=
  h.blocks (t.block _ h.lt0 h0) (t.block _ h.lt1 h1)

set_option maxHeartbeats 400000 in
theorem size_any3 (s k p r a t : Int) (h : Bool) (p0 : 0 ≤ p) (p1 : p ≤ 4095) (r0 : 0 ≤ r) (r1 : r ≤ 65535) (w : World) :
    Calls Tryz.prog 61 #[hv s k p r a t h] w fun e w' => e = .returned (.int .i64 (2 + p + r)) ∧ w' = w.alloc (.cells (hcells s k p r a t h) 60) := by
  go_enter Tryz.func61, Tryz.ntmps61
  go_wp2
  go_ret
  exact ⟨rfl, rfl⟩

set_option maxHeartbeats 2000000 in
theorem write_any (b g : Nat) (c : Cfg) (x : Tps) (sw : Bool) (ws : Nat → Int) (p : Nat) (m s : Int) (hm : Wd m) (hs : Wd s) (hp : (p : Int) + 1 < c.words) (w : World) (h : Ar w b g c x sw ws) :
    Calls Tryz.prog 62 #[.pointer (some ⟨b, 0, none⟩), .int .i64 p, .int .u64 m, .int .u64 s] w fun e w' => e = .returned (.tuple #[]) ∧ Ar w' b g c x sw (upd (upd ws p m) (p + 1) s) ∧ Touch [g] w w' := by
  have k := h.cell14
  have q := h.words
  have hA := (h.set p m hm).set (p + 1) s hs
  have hT : Touch [g] w ((w.setCell ⟨g, p, none⟩ (.int .u64 m)).setCell ⟨g, p + 1, none⟩ (.int .u64 s)) := (Touch.setCell _ _ _ (by simp)).trans (Touch.setCell _ _ _ (by simp))
  have c0 : w.cell? ⟨g, p, none⟩ = some (.int .u64 (ws p)) := h.row.cell (by omega)
  have c1 : w.cell? ⟨g, p + 1, none⟩ = some (.int .u64 (ws (p + 1))) := h.row.cell (by omega)
  have z0 := h.row.frozen p
  have z1 := h.row.frozen (p + 1)
  have d1 : (w.setCell ⟨g, p, none⟩ (.int .u64 m)).cell? ⟨g, p + 1, none⟩ = some (.int .u64 (ws (p + 1))) := by
    have := (h.set p m hm).row.cell (i := p + 1) (by omega)
    rw [this]; unfold upd; rw [if_neg (by omega)]
  have y1 := (h.set p m hm).row.frozen (p + 1)
  have k' := (h.set p m hm).cell14
  have hN : (c.words.toNat : Int) = c.words := Int.toNat_of_nonneg (by omega)
  generalize c.words.toNat = N at k k' hN
  generalize ws p = v0, ws (p + 1) = v1 at c0 c1 d1
  have Hr : Hid (Ar ((w.setCell ⟨g, p, none⟩ (.int .u64 m)).setCell ⟨g, p + 1, none⟩ (.int .u64 s)) b g c x sw (upd (upd ws p m) (p + 1) s) ∧ Touch [g] w ((w.setCell ⟨g, p, none⟩ (.int .u64 m)).setCell ⟨g, p + 1, none⟩ (.int .u64 s))) := ⟨hA, hT⟩
  clear h hA hT
  go_enter Tryz.func62, Tryz.ntmps62
  go_region
  go_returns
  exact ⟨rfl, Hr.out.1.keep rfl rfl, ⟨Hr.out.2.os, Hr.out.2.tape, Hr.out.2.output, Hr.out.2.size, Hr.out.2.block⟩⟩

/-- An object's size by its first word. -/
def osz (c : Cfg) (ws : Nat → Int) (a : Int) : Int := 2 + ptOf (wat c ws a) + rwOf (wat c ws a)

/-- An object stands at a (P3.7), in a space of that top. -/
def Stands (c : Cfg) (ws : Nat → Int) (top a : Int) : Prop := IsHead (wat c ws a) ∧ osz c ws a ≤ top - a

theorem pt_in (m : Int) : 0 ≤ ptOf m ∧ ptOf m ≤ 4095 := by unfold ptOf; omega
theorem rw_in (m : Int) : 0 ≤ rwOf m ∧ rwOf m ≤ 65535 := by unfold rwOf; omega

theorem osz_in (c : Cfg) (ws : Nat → Int) (a : Int) : 2 ≤ osz c ws a ∧ osz c ws a ≤ 69632 := by
  have := pt_in (wat c ws a); have := rw_in (wat c ws a)
  unfold osz; omega

/-- Its header as a value. -/
abbrev hdv (c : Cfg) (ws : Nat → Int) (a : Int) : Value := hv (wat c ws (a + 1)) (kdOf (wat c ws a)) (ptOf (wat c ws a)) (rwOf (wat c ws a)) (agOf (wat c ws a)) (stOf (wat c ws a)) (hdOf (wat c ws a))

abbrev ocells (s k p r a t : Int) (h : Bool) (v : Value) : Array Value := #[.int .u64 s, .int .i64 k, .int .i64 p, .int .i64 r, .int .i64 a, .int .i64 t, .bool h, v]
abbrev ov (s k p r a t : Int) (h : Bool) (v : Value) : Value := .agg (ocells s k p r a t h v)

/-- An object as below tells it. -/
abbrev obv (c : Cfg) (g : Nat) (ws : Nat → Int) (a : Int) : Value :=
  ov (wat c ws (a + 1)) (kdOf (wat c ws a)) (ptOf (wat c ws a)) (rwOf (wat c ws a)) (agOf (wat c ws a)) (stOf (wat c ws a)) (hdOf (wat c ws a)) (.slice (some ⟨g, a.toNat, none⟩) (osz c ws a).toNat (osz c ws a).toNat)

set_option maxHeartbeats 1000000 in
theorem below_above (b g : Nat) (top a : Int) (ha : top ≤ a) (w : World) :
    Calls Tryz.prog 99 #[.pointer (some ⟨b, 0, none⟩), .int .i64 top, .int .i64 a] w fun e w' => e = .returned (.tuple #[ov 0 0 0 0 0 0 false (.slice none 0 0), .bool false]) ∧ Below w.heap.size w w' := by
  go_enter Tryz.func99, Tryz.ntmps99
  go_wp2
  go_returns
  refine ⟨rfl, ?_⟩
  go_grown

theorem results_cell2 {P : Program} {fn : Func} {p u : Tmp} {ty : TypeId} (h : fn.results = #[.cell p ty, .tmp u]) {tmps : Array Value} {w : World} {v : Value} {A : Addr} (ha : tmps.getD p undef = .pointer (some A)) (hl : (loadVar ty A).run P w = .ok v w) :
    (results fn tmps).run P w = .ok (.tuple #[v, tmps.getD u undef]) w := by
  have ha' : tmps[p]?.getD undef = .pointer (some A) := by simpa using ha
  simp [results, h, ha', asAddr, hl]

theorem below_setRow {B : Nat} {w w' : World} (l : Below B w w') {R : Nat} (hR : B ≤ R) (cs : Array Value) : Below B w (w'.setRow R cs) :=
  ⟨l.os, l.tape, l.output, by have := l.size; simpa using this, fun k hk => (setRow_other _ _ _ _ (by omega)).trans (l.block k hk)⟩

theorem oinfo : (Tryz.prog.info? 124).map (·.size) = some 8 := by kernel_rfl

/-- Block R holds an object as below tells it. -/
structure Oc (w : World) (R : Nat) (cs : Array Value) : Prop where
  at_ : w.heap[R]? = some (.cells cs 124 (0, 0))

theorem Oc.new (w : World) (cs : Array Value) : Oc (w.alloc (.cells cs 124)) w.heap.size cs := ⟨heap_alloc_new w _⟩
theorem Oc.lt {w : World} {R : Nat} {cs : Array Value} (h : Oc w R cs) : R < w.heap.size := (Array.getElem?_eq_some_iff.1 h.at_).1
theorem Oc.below {w w' : World} {R : Nat} {cs : Array Value} (h : Oc w R cs) (l : Below w.heap.size w w') : Oc w' R cs := ⟨(l.block R h.lt).trans h.at_⟩

theorem Oc.load {w : World} {R : Nat} {s k p r a t : Int} {h : Bool} {v : Value} (o : Oc w R (ocells s k p r a t h v)) : (loadVar 124 ⟨R, 0, none⟩).run Tryz.prog w = .ok (ov s k p r a t h v) w :=
  run_loadVar_row w R 124 124 _ (0, 0) _ o.at_ Tryz.underlying124 rfl oinfo

abbrev ozero : Array Value := ocells 0 0 0 0 0 0 false (.slice none 0 0)

set_option maxHeartbeats 2000000 in
theorem below_no (b g : Nat) (c : Cfg) (x : Tps) (sw : Bool) (ws : Nat → Int) (top a : Int) (h0 : 0 ≤ a) (h1 : a < top) (h2 : top ≤ c.words) (hn : ¬ Stands c ws top a) (w : World) (h : Ar w b g c x sw ws) (hL : Laid w) :
    Calls Tryz.prog 99 #[.pointer (some ⟨b, 0, none⟩), .int .i64 top, .int .i64 a] w fun e w' => e = .returned (.tuple #[ov 0 0 0 0 0 0 false (.slice none 0 0), .bool false]) ∧ Below w.heap.size w w' := by
  obtain ⟨p, rfl⟩ := Int.eq_ofNat_of_zero_le h0
  have b0 : Below w.heap.size w (w.alloc (.cells ozero 124)) := Below.alloc (Below.refl _ _) (Nat.le_refl _) _
  have k14 := (h.below b0).cell14
  have kw := (h.below b0).cellW p h0 (by omega) p rfl
  have hL1 := hL.keep b0
  have o0 := Oc.new w ozero
  have q := h.words
  have wd := h.wat_wd (p : Int)
  unfold Stands osz at hn
  generalize wat c ws (p : Int) = m at kw hn wd
  have hN : (c.words.toNat : Int) = c.words := Int.toNat_of_nonneg (by omega)
  generalize c.words.toNat = N at k14 hN
  clear h hL
  by_cases hd : IsHead m
  · have hu := unpack_yes m wd hd _ hL1
    obtain ⟨p0, p1⟩ := pt_in m
    obtain ⟨r0, r1⟩ := rw_in m
    have hsz : ¬ 2 + ptOf m + rwOf m ≤ top - p := fun e => hn ⟨hd, e⟩
    clear hn hd
    generalize kdOf m = K, ptOf m = P, rwOf m = R, agOf m = A, stOf m = T, hdOf m = H at hu p0 p1 r0 r1 hsz
    go_enter Tryz.func99, Tryz.ntmps99
    go_wp2_with fail
    refine hu.mono ?_
    rintro e w1 ⟨rfl, b1⟩
    have o1 := o0.below b1
    have b2 := b0.trans (b1.mono b0.size)
    clear hu b0 b1 k14 kw hL1 o0
    go_wp2_with fail
    refine (size_any3 0 K P R A T H p0 p1 r0 r1 _).mono ?_
    rintro e w' ⟨rfl, hw⟩
    obtain ⟨w2, rfl, o2, b3⟩ : ∃ w2, w' = w2 ∧ Oc w2 w.heap.size ozero ∧ Below w.heap.size w w2 := by
      refine ⟨w', rfl, ?_, ?_⟩
      · rw [hw]; exact (o1.below (Below.alloc (Below.refl _ _) (Nat.le_refl _) _)).below (Below.alloc (Below.refl _ _) (Nat.le_refl _) _)
      · rw [hw]; exact Below.alloc (Below.alloc b2 b2.size _) (by have := b2.size; simp; omega) _
    clear hw o1 b2
    go_wp2_with (refine wpList_store_row rfl 124 _ _ rfl w.heap.size ozero rfl rfl 124 ozero o2.at_ oinfo rfl (by kernel_rfl) ?_)
    have o3 : Oc (w'.setRow w.heap.size ozero) w.heap.size ozero := ⟨setRow_heap _ _ _ _ _ _ o2.at_⟩
    have b4 := below_setRow b3 (Nat.le_refl _) ozero
    generalize w'.setRow w.heap.size ozero = w3 at *
    clear o2 b3
    go_wp2
    refine bodyPost_ret (results_cell2 Tryz.results99 rfl o3.load) rfl ?_
    exact ⟨rfl, b4⟩
  · have hu := unpack_no m wd hd _ hL1
    clear hn hd
    go_enter Tryz.func99, Tryz.ntmps99
    go_wp2_with fail
    refine hu.mono ?_
    rintro e w1 ⟨rfl, b1⟩
    have o1 := o0.below b1
    have b2 := b0.trans (b1.mono b0.size)
    clear hu b0 b1 k14 kw hL1 o0
    go_wp2_with fail
    refine (size_any3 0 0 0 0 0 0 false (by decide) (by decide) (by decide) (by decide) _).mono ?_
    rintro e w' ⟨rfl, hw⟩
    obtain ⟨w2, rfl, o2, b3⟩ : ∃ w2, w' = w2 ∧ Oc w2 w.heap.size ozero ∧ Below w.heap.size w w2 := by
      refine ⟨w', rfl, ?_, ?_⟩
      · rw [hw]; exact (o1.below (Below.alloc (Below.refl _ _) (Nat.le_refl _) _)).below (Below.alloc (Below.refl _ _) (Nat.le_refl _) _)
      · rw [hw]; exact Below.alloc (Below.alloc b2 b2.size _) (by have := b2.size; simp; omega) _
    clear hw o1 b2
    go_wp2_with (refine wpList_store_row rfl 124 _ _ rfl w.heap.size ozero rfl rfl 124 ozero o2.at_ oinfo rfl (by kernel_rfl) ?_)
    have o3 : Oc (w'.setRow w.heap.size ozero) w.heap.size ozero := ⟨setRow_heap _ _ _ _ _ _ o2.at_⟩
    have b4 := below_setRow b3 (Nat.le_refl _) ozero
    generalize w'.setRow w.heap.size ozero = w3 at *
    clear o2 b3
    go_wp2
    refine bodyPost_ret (results_cell2 Tryz.results99 rfl o3.load) rfl ?_
    exact ⟨rfl, b4⟩

end Go.Proofs.YtbgnagjhkfkekaaGreatDoor

/-
  An object that stands.
-/
set_option linter.unusedVariables false
namespace Go.Proofs.YtbgnagjhkfkekaaGreatDoor
open Go.RowKit

set_option maxHeartbeats 400000 in
theorem piece_cell (b g N p n : Nat) (hp : (p : Int) + n ≤ N) (hN : (N : Int) ≤ 262145) (w : World) (k : w.cell? ⟨b, 14, none⟩ = some (.slice (some ⟨g, 0, none⟩) N N)) (hn : 0 < n) :
    Calls Tryz.prog 93 #[.pointer (some ⟨b, 0, none⟩), .int .i64 p, .int .i64 n] w fun e w' => e = .returned (.slice (some ⟨g, p, none⟩) n n) ∧ w = w' := by
  go_enter Tryz.func93, Tryz.ntmps93
  go_wp2
  go_ret
  refine ⟨?_, rfl⟩
  simp

set_option maxHeartbeats 2000000 in
theorem below_core (b g N p n : Nat) (m sr K P R A T : Int) (H : Bool) (top : Int) (h1 : (p : Int) < top) (h2 : top ≤ N) (hN : (N : Int) ≤ 262145) (hsz : 2 + P + R = n) (hle : (n : Int) ≤ top - p) (p0 : 0 ≤ P) (p1 : P ≤ 4095) (r0 : 0 ≤ R) (r1 : R ≤ 65535) (w : World)
    (hb : b < w.heap.size) (hg : g < w.heap.size) (c14 : w.cell? ⟨b, 14, none⟩ = some (.slice (some ⟨g, 0, none⟩) N N)) (cm : w.cell? ⟨g, p, none⟩ = some (.int .u64 m)) (cs : w.cell? ⟨g, p + 1, none⟩ = some (.int .u64 sr))
    (hu : ∀ w', Below w.heap.size w w' → Calls Tryz.prog 134 #[.int .u64 m] w' fun e w'' => e = .returned (.tuple #[hv 0 K P R A T H, .bool true]) ∧ Below w'.heap.size w' w'') :
    Calls Tryz.prog 99 #[.pointer (some ⟨b, 0, none⟩), .int .i64 top, .int .i64 p] w fun e w' => e = .returned (.tuple #[ov sr K P R A T H (.slice (some ⟨g, p, none⟩) n n), .bool true]) ∧ Below w.heap.size w w' := by
  have b0 : Below w.heap.size w (w.alloc (.cells ozero 124)) := Below.alloc (Below.refl _ _) (Nat.le_refl _) _
  have o0 := Oc.new w ozero
  have k14 := (b0.cell (p := ⟨b, 14, none⟩) hb).trans c14
  have km := (b0.cell (p := ⟨g, p, none⟩) hg).trans cm
  have hu0 := hu _ b0
  clear hu
  go_enter Tryz.func99, Tryz.ntmps99
  go_wp2_with fail
  refine hu0.mono ?_
  rintro e w1 ⟨rfl, b1⟩
  have o1 := o0.below b1
  have b2 := b0.trans (b1.mono b0.size)
  clear hu0 b0 b1 k14 km o0
  go_wp2_with fail
  refine (size_any3 0 K P R A T H p0 p1 r0 r1 _).mono ?_
  rintro e w' ⟨rfl, hw⟩
  have x1 := Box.new w1 60 (.int .u64 0) (.int .i64 K) (.int .i64 P) (.int .i64 R) (.int .i64 A) (.int .i64 T) (.bool H)
  obtain ⟨w2, rfl, o2, b3, x2⟩ : ∃ w2, w' = w2 ∧ Oc w2 w.heap.size ozero ∧ Below w.heap.size w w2 ∧ Box w2 w1.heap.size (.int .u64 0) (.int .i64 K) (.int .i64 P) (.int .i64 R) (.int .i64 A) (.int .i64 T) (.bool H) := by
    refine ⟨w', rfl, ?_, ?_, ?_⟩
    · rw [hw]; exact (o1.below (Below.alloc (Below.refl _ _) (Nat.le_refl _) _)).below (Below.alloc (Below.refl _ _) (Nat.le_refl _) _)
    · rw [hw]; exact Below.alloc (Below.alloc b2 b2.size _) (by have := b2.size; simp; omega) _
    · rw [hw]; exact x1.keep (Below.alloc (Below.refl _ _) (Nat.le_refl _) _) x1.lt
  have hR1 := o1.lt
  clear hw o1 b2 x1
  have k14 := (b3.cell (p := ⟨b, 14, none⟩) hb).trans c14
  have ks := (b3.cell (p := ⟨g, p + 1, none⟩) hg).trans cs
  have hxl := x2.lt
  have hsz' : 2 + P + R = (n : Int) := hsz
  rw [hsz']
  go_upto_region 7 with fail
  obtain ⟨y0, y1, y2, y3, y4, y5, y6, -, -, -, -, -, -, -⟩ := x2
  generalize w1.heap.size = B1 at *
  go_cut [11] from 39 to 44 (fun v wq => v = .pointer (some ⟨w'.heap.size, 0, none⟩) ∧ wq = (w'.alloc (.cells (ocells 0 K P R A T H (.slice (some ⟨g, p, none⟩) n n)) 124)).drew)
  case first =>
    go_region_with (go_at_call 93; refine (piece_cell b g N p n (by omega) hN _ (by first | exact k14 | exact Lib.cell?_alloc_some _ k14) (by omega)).mono ?_; rintro e Wx ⟨rfl, rfl⟩)
    all_goals (go_wp2_with fail; go_meet; exact ⟨rfl, rfl⟩)
  case rest =>
  obtain ⟨rfl, hwq⟩ := hcut
  clear y0 y1 y2 y3 y4 y5 y6
  have q1 : Oc wc w'.heap.size (ocells 0 K P R A T H (.slice (some ⟨g, p, none⟩) n n)) := by rw [hwq]; exact ⟨(Oc.new w' _).at_⟩
  have q2 : Oc wc w.heap.size ozero := by rw [hwq]; exact ⟨(o2.below (Below.alloc (Below.refl _ _) (Nat.le_refl _) _)).at_⟩
  have q3 : Below w.heap.size w wc := by rw [hwq]; exact below_drewN (Below.alloc b3 b3.size _) 1
  have q4 : wc.cell? ⟨g, p + 1, none⟩ = some (.int .u64 sr) := (q3.cell (p := ⟨g, p + 1, none⟩) hg).trans cs
  have hne : w.heap.size ≠ w'.heap.size := Nat.ne_of_lt o2.lt
  have hle3 := b3.size
  clear hwq o2 b3 k14 ks
  generalize w'.heap.size = B3 at *
  have z0 := cell_of_row _ _ 0 _ _ _ q1.at_
  have z7 := cell_of_row _ _ 7 _ _ _ q1.at_
  have zf : wc.frozen? ⟨B3, 0, none⟩ = false := by unfold World.frozen?; simp only [q1.at_]; simp
  simp only [List.getElem?_toArray, List.getElem?_cons_zero, List.getElem?_cons_succ] at z0 z7
  have r1 : Oc (wc.setCell ⟨B3, 0, none⟩ (.int .u64 sr)) B3 (ocells sr K P R A T H (.slice (some ⟨g, p, none⟩) n n)) := ⟨by simp [World.setCell, Array.getElem?_modify, q1.at_]⟩
  have r2 : Oc (wc.setCell ⟨B3, 0, none⟩ (.int .u64 sr)) w.heap.size ozero := ⟨(Below.heap_setCell _ _ _ _ hne).trans q2.at_⟩
  have r3 : Below w.heap.size w (wc.setCell ⟨B3, 0, none⟩ (.int .u64 sr)) := Below.setCell q3 hle3 _
  have hn2 : 2 ≤ n := by omega
  go_upto_region 9 with fail
  clear q1 q2 q3 q4 z0 z7 zf
  generalize wc.setCell ⟨B3, 0, none⟩ (.int .u64 sr) = w4 at *
  have hld : (Instr.loadAt 124 (.pointer (some ⟨B3, 0, none⟩))).run Tryz.prog w4 = .ok (ov sr K P R A T H (.slice (some ⟨g, p, none⟩) n n)) w4 := by
    simp only [Instr.loadAt, Instr.sureAddr, Sem.run_bind, Sem.run_pure, Result.andThen]
    exact r1.load
  go_wp2_with (first | (refine wpList_load_row rfl 124 _ rfl B3 rfl 124 _ (0, 0) _ r1.at_ Tryz.underlying124 rfl oinfo ?_) | (refine wpList_store_row rfl 124 _ _ rfl w.heap.size (ocells sr K P R A T H (.slice (some ⟨g, p, none⟩) n n)) rfl rfl 124 ozero r2.at_ oinfo rfl (by kernel_rfl) ?_))
  have o3 : Oc (w4.setRow w.heap.size (ocells sr K P R A T H (.slice (some ⟨g, p, none⟩) n n))) w.heap.size (ocells sr K P R A T H (.slice (some ⟨g, p, none⟩) n n)) := ⟨setRow_heap _ _ _ _ _ _ r2.at_⟩
  have b4 := below_setRow r3 (Nat.le_refl _) (ocells sr K P R A T H (.slice (some ⟨g, p, none⟩) n n))
  generalize w4.setRow w.heap.size (ocells sr K P R A T H (.slice (some ⟨g, p, none⟩) n n)) = w5 at *
  clear r1 r2 r3 hld
  go_wp2
  refine bodyPost_ret (results_cell2 Tryz.results99 rfl o3.load) rfl ?_
  exact ⟨rfl, b4⟩

theorem below_yes (b g : Nat) (c : Cfg) (x : Tps) (sw : Bool) (ws : Nat → Int) (top a : Int) (h0 : 0 ≤ a) (h1 : a < top) (h2 : top ≤ c.words) (hs : Stands c ws top a) (w : World) (h : Ar w b g c x sw ws) (hL : Laid w) :
    Calls Tryz.prog 99 #[.pointer (some ⟨b, 0, none⟩), .int .i64 top, .int .i64 a] w fun e w' => e = .returned (.tuple #[obv c g ws a, .bool true]) ∧ Below w.heap.size w w' := by
  obtain ⟨p, rfl⟩ := Int.eq_ofNat_of_zero_le h0
  have q := h.words
  have z := osz_in c ws p
  obtain ⟨hd, hle⟩ := hs
  have hN : (c.words.toNat : Int) = c.words := Int.toNat_of_nonneg (by omega)
  have hz : ((osz c ws p).toNat : Int) = osz c ws p := Int.toNat_of_nonneg (by omega)
  have k := below_core b g c.words.toNat p (osz c ws p).toNat (wat c ws p) (wat c ws ((p : Int) + 1)) (kdOf (wat c ws p)) (ptOf (wat c ws p)) (rwOf (wat c ws p)) (agOf (wat c ws p)) (stOf (wat c ws p)) (hdOf (wat c ws p)) top h1 (by omega) (by omega) (by rw [hz]; rfl) (by omega) (pt_in _).1 (pt_in _).2 (rw_in _).1 (rw_in _).2 w h.own.lt h.row.lt h.cell14
    (h.cellW p h0 (by omega) p rfl) (h.cellW ((p : Int) + 1) (by omega) (by omega) (p + 1) (by omega)) (fun w' l => unpack_yes _ (h.wat_wd _) hd w' (hL.keep l))
  exact k

/-- How far fillers are passed over. -/
inductive Past (c : Cfg) (ws : Nat → Int) (top : Int) : Int → Int → Prop
  | done {a : Int} (h : top ≤ a ∨ ¬ (IsTag 3 (wat c ws a) ∧ wat c ws a / 4 ≤ top - a)) : Past c ws top a a
  | step {a e : Int} (h : a < top) (ht : IsTag 3 (wat c ws a)) (hl : wat c ws a / 4 ≤ top - a) (r : Past c ws top (a + wat c ws a / 4) e) : Past c ws top a e

theorem Past.ge {c : Cfg} {ws : Nat → Int} {top a e : Int} (h : Past c ws top a e) : a ≤ e := by
  induction h with
  | done => exact Int.le_refl _
  | step h ht hl r ih => have := ht.2.1; omega

theorem Past.le {c : Cfg} {ws : Nat → Int} {top a e : Int} (h : Past c ws top a e) (ha : a ≤ top) : e ≤ top := by
  induction h with
  | done => exact ha
  | step h ht hl r ih => exact ih (by omega)

set_option maxHeartbeats 2000000 in
theorem past_any (b g : Nat) (c : Cfg) (x : Tps) (sw : Bool) (ws : Nat → Int) (top a e : Int) (h0 : 0 ≤ a) (h2 : top ≤ c.words) (hp : Past c ws top a e) (w : World) (h : Ar w b g c x sw ws) (hL : Laid w) :
    Calls Tryz.prog 129 #[.pointer (some ⟨b, 0, none⟩), .int .i64 top, .int .i64 a] w fun r w' => r = .returned (.int .i64 e) ∧ Below w.heap.size w w' := by
  have q := h.words
  have hN : (c.words.toNat : Int) = c.words := Int.toNat_of_nonneg (by omega)
  have Hh : Hid (Ar w b g c x sw ws) := h
  clear h
  go_enter Tryz.func129, Tryz.ntmps129
  go_wp2
  go_loopw [2] (fun v wr => ∃ i : Int, 0 ≤ i ∧ v = .int .i64 i ∧ Past c ws top i e ∧ ∃ n, wr = w.drewN n) (fun v _ => (top - intOf v).toNat)
  case atStart => exact ⟨a, h0, rfl, hp, 0, rfl⟩
  case round =>
    obtain ⟨i, hi, rfl, hr, n, rfl⟩ := hrel
    by_cases hlt : i < top
    · obtain ⟨p, rfl⟩ := Int.eq_ofNat_of_zero_le hi
      have k14 : (w.drewN n).cell? ⟨b, 14, none⟩ = _ := Hh.out.cell14
      have kw : (w.drewN n).cell? ⟨g, p, none⟩ = _ := Hh.out.cellW p hi (by omega) p rfl
      have wd := Hh.out.wat_wd (p : Int)
      have hf := filled_any (wat c ws p) wd (w.drewN n) hL.b
      have Hr : Hid (Past c ws top p e) := hr
      clear hr
      by_cases ht : IsTag 3 (wat c ws p) ∧ wat c ws p / 4 ≤ top - p
      · have hnx : Past c ws top (p + wat c ws p / 4) e := by
          rcases Hr.out with ⟨hd⟩ | ⟨_, _, _, r⟩
          · rcases hd with hd | hd
            · omega
            · exact absurd ht hd
          · exact r
        have e1 : tn 3 (wat c ws p) = wat c ws p / 4 := by unfold tn; rw [if_pos ht.1]
        have g1 := ht.1.2.1
        have g2 := ht.2
        rw [e1, decide_eq_true ht.1] at hf
        have Hnx : Hid (Past c ws top (p + wat c ws p / 4) e) := hnx
        clear ht hnx e1
        generalize hmm : wat c ws p / 4 = t at hf g1 g2
        have Hm : Hid (wat c ws p / 4 = t) := hmm
        clear hmm
        generalize c.words.toNat = N at *
        go_wp2_with fail
        refine hf.mono ?_
        rintro r w' ⟨rfl, n', rfl⟩
        go_wp2
        go_roundw
        case rel => exact ⟨p + t, by omega, rfl, by rw [← Hm.out]; exact Hnx.out, n + n', rfl⟩
        case measure => simp [intOf]; omega
      · have he : e = p := by
          rcases Hr.out with ⟨_⟩ | ⟨_, h1, h2, r⟩
          · rfl
          · exact absurd ⟨h1, h2⟩ ht
        subst he
        by_cases ht1 : IsTag 3 (wat c ws p)
        · have g2 : ¬ wat c ws p / 4 ≤ top - p := fun e => ht ⟨ht1, e⟩
          have e1 : tn 3 (wat c ws p) = wat c ws p / 4 := by unfold tn; rw [if_pos ht1]
          rw [e1, decide_eq_true ht1] at hf
          clear ht ht1 e1 Hr
          generalize wat c ws p / 4 = t at hf g2
          generalize c.words.toNat = N at *
          go_wp2_with fail
          refine hf.mono ?_
          rintro r w' ⟨rfl, n', rfl⟩
          go_wp2
          go_ret
          exact ⟨rfl, below_drewN (Below.refl _ _) _⟩
        · rw [decide_eq_false ht1] at hf
          clear ht ht1 Hr
          generalize tn 3 (wat c ws p) = t at hf
          generalize c.words.toNat = N at *
          go_wp2_with fail
          refine hf.mono ?_
          rintro r w' ⟨rfl, n', rfl⟩
          go_wp2
          go_ret
          exact ⟨rfl, below_drewN (Below.refl _ _) _⟩
    · have he : e = i := by
        rcases hr with ⟨_⟩ | ⟨h1, _, _, _⟩
        · rfl
        · omega
      subst he
      clear hr hp
      go_wp2
      go_ret
      exact ⟨rfl, below_drewN (Below.refl _ _) _⟩

end Go.Proofs.YtbgnagjhkfkekaaGreatDoor

/-
  Put.
-/
set_option linter.unusedVariables false
namespace Go.Proofs.YtbgnagjhkfkekaaGreatDoor
open Go.RowKit

theorem pck_ok {k p r a t : Int} {h : Bool} (hf : flt k p r a t = 0) : pck k p r a t h = wrd k p r a t h := by unfold pck; rw [if_pos hf]

theorem wrd_wd {k p r a t : Int} {h : Bool} (m : May k p r a t) : Wd (wrd k p r a t h) := by
  have := m.k1; have := m.k4; have := m.p0; have := m.p1; have := m.r0; have := m.r1; have := m.a0; have := m.a1; have := m.s0; have := m.s1
  unfold wrd Wd
  split <;> omega

set_option maxHeartbeats 1000000 in
theorem put_bad (b g : Nat) (S s k p r a t : Int) (h : Bool) (hf : flt k p r a t ≠ 0) (w : World) (hL : Laid w) :
    Calls Tryz.prog 25 #[.pointer (some ⟨b, 0, none⟩), .int .i64 S, hv s k p r a t h] w fun e w' => e = .returned (.tuple #[.int .i64 0, .bool false]) ∧ Below w.heap.size w w' := by
  have b0 : Below w.heap.size w (w.alloc (.cells (hcells s k p r a t h) 60)) := Below.alloc (Below.refl _ _) (Nat.le_refl _) _
  have hp := pack_any s k p r a t h _ (hL.keep b0)
  generalize flt k p r a t = f, pck k p r a t h = m at hf hp
  go_enter Tryz.func25, Tryz.ntmps25
  go_wp2_with fail
  refine hp.mono ?_
  rintro e w1 ⟨rfl, b1⟩
  have b2 := b0.trans (b1.mono b0.size)
  go_wp2
  go_ret2
  exact ⟨rfl, b2⟩

set_option maxHeartbeats 1000000 in
theorem put_full (b g : Nat) (c : Cfg) (x : Tps) (sw : Bool) (ws : Nat → Int) (S s k p r a t : Int) (h : Bool) (hf : flt k p r a t = 0) (hn : ¬ 2 + p + r ≤ bhd c S - x.top S) (w : World) (hA : Ar w b g c x sw ws) (hL : Laid w) :
    Calls Tryz.prog 25 #[.pointer (some ⟨b, 0, none⟩), .int .i64 S, hv s k p r a t h] w fun e w' => e = .returned (.tuple #[.int .i64 0, .bool false]) ∧ Below w.heap.size w w' := by
  have b0 : Below w.heap.size w (w.alloc (.cells (hcells s k p r a t h) 60)) := Below.alloc (Below.refl _ _) (Nat.le_refl _) _
  have hp := pack_any s k p r a t h _ (hL.keep b0)
  have x0 := Box.new w 60 (.int .u64 s) (.int .i64 k) (.int .i64 p) (.int .i64 r) (.int .i64 a) (.int .i64 t) (.bool h)
  have m := May.of hf
  rw [hf] at hp
  generalize pck k p r a t h = wd at hp
  have p0 := m.p0; have p1 := m.p1; have r0 := m.r0; have r1 := m.r1
  have Hm : Hid (May k p r a t) := m
  clear hf m
  have Ht : Hid (∀ w, Ar w b g c x sw ws → Calls Tryz.prog 59 #[.pointer (some ⟨b, 0, none⟩), .int .i64 S, .int .i64 (2 + p + r)] w fun e w' => e = .returned (.tuple #[.int .i64 0, .bool false]) ∧ Below w.heap.size w w') := fun w hw => take_no b g c x sw ws S _ (fun hh => hn hh.2) w hw
  have HA : Hid (Ar w b g c x sw ws) := hA
  clear hA hn
  go_enter Tryz.func25, Tryz.ntmps25
  go_wp2_with fail
  refine hp.mono ?_
  rintro e w1 ⟨rfl, b1⟩
  have b2 := b0.trans (b1.mono b0.size)
  have x1 := x0.keep b1 x0.lt
  clear b0 b1 hp x0
  obtain ⟨y0, y1, y2, y3, y4, y5, y6, -, -, -, -, -, -, -⟩ := x1
  go_wp2_with fail
  refine (size_any3 s k p r a t h p0 p1 r0 (by omega) _).mono ?_
  rintro e w2 ⟨rfl, hw2⟩
  have b3 : Below w.heap.size w w2 := by rw [hw2]; exact Below.alloc b2 b2.size _
  clear hw2 b2 y0 y1 y2 y3 y4 y5 y6
  go_wp2_with fail
  refine (Ht.out w2 (HA.out.below b3)).mono ?_
  rintro e w3 ⟨rfl, b4⟩
  have b5 := b3.trans (b4.mono b3.size)
  clear b3 b4
  go_wp2
  go_ret2
  exact ⟨rfl, b5⟩

/-- What Put writes. -/
def putw (ws : Nat → Int) (q n : Nat) (m s : Int) : Nat → Int := upd (upd (zer ws q n) q m) (q + 1) s

set_option maxHeartbeats 2000000 in
theorem put_yes (b g : Nat) (c : Cfg) (x : Tps) (sw : Bool) (ws : Nat → Int) (S s k p r a t : Int) (h : Bool) (hs : Wd s) (hf : flt k p r a t = 0) (q n : Nat) (hq : x.top S = q) (hn : (n : Int) = 2 + p + r) (hle : (q : Int) + n ≤ bhd c S) (w : World) (hA : Ar w b g c x sw ws) (hL : Laid w) :
    Calls Tryz.prog 25 #[.pointer (some ⟨b, 0, none⟩), .int .i64 S, hv s k p r a t h] w fun e w' => e = .returned (.tuple #[.int .i64 q, .bool true]) ∧ Ar w' b g c (x.put S (q + n)) sw (putw ws q n (wrd k p r a t h) s) ∧ Touch [b, g] w w' := by
  have b0 : Below w.heap.size w (w.alloc (.cells (hcells s k p r a t h) 60)) := Below.alloc (Below.refl _ _) (Nat.le_refl _) _
  have hp := pack_any s k p r a t h _ (hL.keep b0)
  have x0 := Box.new w 60 (.int .u64 s) (.int .i64 k) (.int .i64 p) (.int .i64 r) (.int .i64 a) (.int .i64 t) (.bool h)
  have m := May.of hf
  rw [hf, pck_ok hf] at hp
  have hwd := wrd_wd (h := h) m
  generalize wrd k p r a t h = wd at hp hwd ⊢
  have p0 := m.p0; have p1 := m.p1; have r0 := m.r0; have r1 := m.r1
  have wo := hA.words
  have bo := (hA.sub_in S).2.2.2
  have Ht : Hid (∀ w, Ar w b g c x sw ws → Calls Tryz.prog 59 #[.pointer (some ⟨b, 0, none⟩), .int .i64 S, .int .i64 (2 + p + r)] w fun e w' => e = .returned (.tuple #[.int .i64 q, .bool true]) ∧ Ar w' b g c (x.put S (q + n)) sw (zer ws q n) ∧ Touch [b, g] w w') := fun w hw => by
    rw [← hn]
    exact take_yes b g c x sw ws S q n hq (by omega) hle w hw
  have Hw : Hid (∀ w, Ar w b g c (x.put S (q + n)) sw (zer ws q n) → Calls Tryz.prog 62 #[.pointer (some ⟨b, 0, none⟩), .int .i64 q, .int .u64 wd, .int .u64 s] w fun e w' => e = .returned (.tuple #[]) ∧ Ar w' b g c (x.put S (q + n)) sw (putw ws q n wd s) ∧ Touch [g] w w') := fun w hw => write_any b g c _ sw _ q wd s hwd hs (by omega) w hw
  have HA : Hid (Ar w b g c x sw ws) := hA
  have hbl := hA.own.lt
  have hgl := hA.row.lt
  clear hA hf m hn hle bo
  go_enter Tryz.func25, Tryz.ntmps25
  go_wp2_with fail
  refine hp.mono ?_
  rintro e w1 ⟨rfl, b1⟩
  have b2 := b0.trans (b1.mono b0.size)
  have x1 := x0.keep b1 x0.lt
  clear b0 b1 hp x0
  have x1' := x1
  obtain ⟨y0, y1, y2, y3, y4, y5, y6, -, -, -, -, -, -, -⟩ := x1
  go_wp2_with fail
  refine (size_any3 s k p r a t h p0 p1 r0 (by omega) _).mono ?_
  rintro e w2 ⟨rfl, hw2⟩
  have b3 : Below w.heap.size w w2 := by rw [hw2]; exact Below.alloc b2 b2.size _
  have x2 : w2.cell? ⟨w.heap.size, 0, none⟩ = some (.int .u64 s) := by
    rw [hw2]; exact (x1'.keep (Below.alloc (Below.refl _ _) (Nat.le_refl _) _) x1'.lt).h0
  have hwl : w.heap.size < w2.heap.size := World.block_lt_of_cell? _ _ x2
  clear hw2 b2 y0 y1 y2 y3 y4 y5 y6 x1'
  go_wp2_with fail
  refine (Ht.out w2 (HA.out.below b3)).mono ?_
  rintro e w3 ⟨rfl, hA3, t3⟩
  have x3 : w3.cell? ⟨w.heap.size, 0, none⟩ = some (.int .u64 s) := by
    rw [World.cell?_of_block (w := w2) (t3.block _ hwl (by simp; omega))]; exact x2
  have t4 : Touch [b, g] w w3 := (Touch.of_below b3 _).trans t3
  have HA3 : Hid (Ar w3 b g c (x.put S (q + n)) sw (zer ws q n)) := hA3
  clear hA3 t3 b3 x2
  go_wp2_with fail
  refine (Hw.out w3 HA3.out).mono ?_
  rintro e w4 ⟨rfl, hA4, t5⟩
  have HA4 : Hid (Ar w4 b g c (x.put S (q + n)) sw (putw ws q n wd s)) := hA4
  have t6 := t4.then t5 (fun x h => .inl (by simp at h; simp [h]))
  clear hA4 t5 t4 x3
  go_wp2
  go_ret2
  exact ⟨rfl, HA4.out, t6⟩

end Go.Proofs.YtbgnagjhkfkekaaGreatDoor

/-
  The walk through a space.
-/
set_option linter.unusedVariables false
namespace Go.Proofs.YtbgnagjhkfkekaaGreatDoor
open Go.RowKit

/-- The objects from a on, and where the walk ends (P3.10). -/
inductive Walk (c : Cfg) (ws : Nat → Int) (top : Int) : Int → List Int → Int → Prop
  | done {a : Int} (h : top ≤ a) : Walk c ws top a [] a
  | fail {a : Int} (h : a < top) (hn : ¬ Stands c ws top a) : Walk c ws top a [] a
  | obj {a a' e : Int} {l : List Int} (h : a < top) (hs : Stands c ws top a) (hp : Past c ws top (a + osz c ws a) a') (r : Walk c ws top a' l e) : Walk c ws top a (a :: l) e

/-- The new footprint: the old one's blocks, or newer ones. -/
def Newer (n : Nat) (F F' : List Nat) : Prop := ∀ k, k ∈ F' → k ∈ F ∨ n ≤ k

theorem Newer.refl (n : Nat) (F : List Nat) : Newer n F F := fun _ h => .inl h
theorem Newer.not {n : Nat} {F F' : List Nat} (h : Newer n F F') {q : Nat} (hq : q < n) (hn : q ∉ F) : q ∉ F' := fun hm => by
  rcases h q hm with h1 | h1
  · exact hn h1
  · omega
theorem Newer.trans {n m : Nat} {F G H : List Nat} (h : Newer n F G) (k : Newer m G H) (hl : n ≤ m) : Newer n F H := fun q hq => by
  rcases k q hq with h1 | h1
  · exact h q h1
  · exact .inr (by omega)

theorem Touch.newer {F G : List Nat} {a b c : World} (h : Touch F a b) (k : Touch G b c) (hn : Newer a.heap.size F G) : Touch F a c := h.then k (fun x hx => hn x hx)

set_option maxHeartbeats 400000 in
theorem objects_any (b : Nat) (S : Int) (w : World) :
    Calls Tryz.prog 128 #[.pointer (some ⟨b, 0, none⟩), .int .i64 S] w fun e w' => e = .returned (.func (.func 136) #[] #[.pointer (some ⟨w.heap.size, 0, none⟩), .pointer (some ⟨w.heap.size + 1, 0, none⟩)]) ∧ w' = (w.alloc (.cells #[.pointer (some ⟨b, 0, none⟩)] 30)).alloc (.cells #[.int .i64 S] 3) := by
  go_enter Tryz.func128, Tryz.ntmps128
  go_wp2
  go_ret
  exact ⟨rfl, rfl⟩

/-- What an iterator of a space stands on. -/
structure It (w : World) (b g ca cs : Nat) (c : Cfg) (x : Tps) (sw : Bool) (ws : Nat → Int) (S : Int) : Prop where
  ar : Ar w b g c x sw ws
  laid : Laid w
  ca : w.cell? ⟨ca, 0, none⟩ = some (.pointer (some ⟨b, 0, none⟩))
  cs : w.cell? ⟨cs, 0, none⟩ = some (.int .i64 S)

/-- No block of an iterator is among these. -/
structure Off (F : List Nat) (b g ca cs : Nat) : Prop where
  b : b ∉ F
  g : g ∉ F
  ca : ca ∉ F
  cs : cs ∉ F
  k0 : 1 ∉ F
  k1 : 0 ∉ F

theorem It.touch {w w' : World} {b g ca cs : Nat} {c : Cfg} {x : Tps} {sw : Bool} {ws : Nat → Int} {S : Int} {F : List Nat} (h : It w b g ca cs c x sw ws S) (o : Off F b g ca cs) (t : Touch F w w') : It w' b g ca cs c x sw ws S :=
  ⟨h.ar.touch t o.b o.g, h.laid.touch t o.k0 o.k1, (World.cell?_of_block (w := w) (t.block _ (World.block_lt_of_cell? _ _ h.ca) o.ca)).trans h.ca, (World.cell?_of_block (w := w) (t.block _ (World.block_lt_of_cell? _ _ h.cs) o.cs)).trans h.cs⟩

theorem It.below {w w' : World} {b g ca cs : Nat} {c : Cfg} {x : Tps} {sw : Bool} {ws : Nat → Int} {S : Int} (h : It w b g ca cs c x sw ws S) (l : Below w.heap.size w w') : It w' b g ca cs c x sw ws S :=
  h.touch (F := []) ⟨by simp, by simp, by simp, by simp, by simp, by simp⟩ (Touch.of_below l [])

/-- Block R holds an extent. -/
structure Ec (w : World) (R : Nat) (f q t : Int) : Prop where
  at_ : w.heap[R]? = some (.cells (ecells f q t) 106 (0, 0))

theorem Ec.lt {w : World} {R : Nat} {f q t : Int} (h : Ec w R f q t) : R < w.heap.size := (Array.getElem?_eq_some_iff.1 h.at_).1
theorem Ec.below {w w' : World} {R : Nat} {f q t : Int} (h : Ec w R f q t) (l : Below w.heap.size w w') : Ec w' R f q t := ⟨(l.block R h.lt).trans h.at_⟩
theorem Ec.c0 {w : World} {R : Nat} {f q t : Int} (h : Ec w R f q t) : w.cell? ⟨R, 0, none⟩ = some (.int .i64 f) := cell_of_row _ _ 0 _ _ _ h.at_
theorem Ec.c2 {w : World} {R : Nat} {f q t : Int} (h : Ec w R f q t) : w.cell? ⟨R, 2, none⟩ = some (.int .i64 t) := cell_of_row _ _ 2 _ _ _ h.at_

theorem Oc.cell {w : World} {R : Nat} {cs : Array Value} (h : Oc w R cs) (j : Nat) : w.cell? ⟨R, j, none⟩ = cs[j]? := cell_of_row _ _ j _ _ _ h.at_

set_option maxHeartbeats 8000000 in
theorem walk_any (b g ca cs : Nat) (c : Cfg) (x : Tps) (sw : Bool) (ws : Nat → Int) (S : Int) (l : List Int) (p e : Int) (hp : Past c ws (x.top S) (fst c S) p) (hwk : Walk c ws (x.top S) p l e)
    (W0 : World) (hI : It W0 b g ca cs c x sw ws S) (k : Nat) (B : Value) (J : List Nat → List Int → World → Prop) (Jx : List Int → World → Prop)
    (ek : ∀ args w, (callFunc k args).run Tryz.prog w = .ok (.enter k args) w)
    (hlt : ∀ F pre W, J F pre W → ∀ q, q ∈ F → q < W.heap.size) (hbe : ∀ F pre W W', J F pre W → Below W.heap.size W W' → J F pre W')
    (hcb : ∀ F pre a W, J F pre W → pre ++ [a] <+: l → Calls Tryz.prog k #[B, .int .i64 a, hdv c ws a] W fun r W' => Touch F W W' ∧ ((r = .returned (.bool true) ∧ ∃ F', Newer W.heap.size F F' ∧ J F' (pre ++ [a]) W') ∨ (r = .returned (.bool false) ∧ Jx (pre ++ [a]) W')))
    (F0 : List Nat) (hO : Off F0 b g ca cs) (hJ0 : J F0 [] W0) :
    Calls Tryz.prog 136 #[.func (.func k) #[B] #[], .pointer (some ⟨ca, 0, none⟩), .pointer (some ⟨cs, 0, none⟩)] W0 fun r W' => r = .returned (.tuple #[]) ∧ Touch F0 W0 W' ∧ ((∃ F', Newer W0.heap.size F0 F' ∧ J F' l W') ∨ ∃ pre, pre <+: l ∧ pre ≠ [] ∧ Jx pre W') := by
  have Hcb : Hid (∀ F pre a W, J F pre W → pre ++ [a] <+: l → Calls Tryz.prog k #[B, .int .i64 a, hdv c ws a] W fun r W' => Touch F W W' ∧ ((r = .returned (.bool true) ∧ ∃ F', Newer W.heap.size F F' ∧ J F' (pre ++ [a]) W') ∨ (r = .returned (.bool false) ∧ Jx (pre ++ [a]) W'))) := hcb
  have Hlt : Hid (∀ F pre W, J F pre W → ∀ q, q ∈ F → q < W.heap.size) := hlt
  have Hbe : Hid (∀ F pre W W', J F pre W → Below W.heap.size W W' → J F pre W') := hbe
  clear hcb hlt hbe
  have HI : Hid (It W0 b g ca cs c x sw ws S) := hI
  obtain ⟨s0, s1, s2, s3⟩ := hI.ar.sub_in S
  have wo := hI.ar.words
  have k1 := hI.ca
  have k2 := hI.cs
  have hx := extent_any b g c x sw ws S W0 hI.ar
  clear hI
  generalize fst c S = f, bhd c S = q, x.top S = top at hx hp hwk s0 s1 s2 s3
  go_enter Tryz.func136, Tryz.ntmps136
  go_wp2_with fail
  refine hx.mono ?_
  rintro r w1 ⟨rfl, b1⟩
  have b2 := Below.alloc b1 b1.size (.cells (ecells f q top) 106)
  have hE : Ec (w1.alloc (.cells (ecells f q top) 106)) w1.heap.size f q top := ⟨heap_alloc_new w1 _⟩
  have hES := b1.size
  clear b1 hx k1 k2
  go_upto_region 1 with fail
  generalize (w1.alloc (.cells (ecells f q top) 106)) = w2 at *
  generalize w1.heap.size = E at *
  have i2 := HI.out.below b2
  have k1 := i2.ca
  have k2 := i2.cs
  have k3 := hE.c0
  have k4 := hE.c2
  have hpa := past_any b g c x sw ws top f p s0 (by omega) hp w2 i2.ar i2.laid
  clear i2
  go_wp2_with fail
  refine hpa.mono ?_
  rintro r w3 ⟨rfl, b3⟩
  have b4 := b2.trans (b3.mono b2.size)
  have hE3 := hE.below b3
  have p0 := hp.ge
  clear hpa k1 k2 k3 k4 b3 b2 hE
  have hJ3 := Hbe.out _ _ _ _ hJ0 b4
  have hEF : E ∉ F0 := fun hm => by have := Hlt.out _ _ _ hJ0 E hm; omega
  clear hJ0
  go_wp2
  go_loopw [5] (fun v wr => ∃ a pre rest F, v = .int .i64 a ∧ 0 ≤ a ∧ l = pre ++ rest ∧ Walk c ws top a rest e ∧ J F pre wr ∧ Touch F0 W0 wr ∧ Newer W0.heap.size F0 F ∧ E ∉ F ∧ Ec wr E f q top) (fun v _ => (top - intOf v).toNat)
  case atStart => exact ⟨p, [], l, F0, rfl, by omega, rfl, hwk, hJ3, Touch.of_below b4 _, Newer.refl _ _, hEF, hE3⟩
  case round =>
    obtain ⟨a, pre, rest, F, rfl, ha, hl, hw, hJr, htr, hnw, hEr, hEc⟩ := hrel
    have HJr : Hid (J F pre wr) := hJr
    have Hw : Hid (Walk c ws top a rest e) := hw
    clear hJr hw
    have hr := HI.out.touch hO htr
    have k1 := hr.ca
    have k2 := hr.cs
    have k4 := hEc.c2
    by_cases hat : a < top
    · by_cases hs : Stands c ws top a
      · have hbl := below_yes b g c x sw ws top a ha hat (by omega) hs wr hr.ar hr.laid
        obtain ⟨l', a', hre, hpa, hw'⟩ : ∃ l' a', rest = a :: l' ∧ Past c ws top (a + osz c ws a) a' ∧ Walk c ws top a' l' e := by
          rcases Hw.out with ⟨h⟩ | ⟨_, h⟩ | ⟨_, _, h3, h4⟩
          · omega
          · exact absurd hs h
          · exact ⟨_, _, rfl, h3, h4⟩
        have Hw' : Hid (Walk c ws top a' l' e) := hw'
        clear hw' Hw
        subst hre
        have hpre : pre ++ [a] <+: l := ⟨l', by rw [hl]; simp⟩
        have hz := osz_in c ws a
        have hzl := hs.2
        obtain ⟨n, hn⟩ : ∃ n : Nat, osz c ws a = n := Int.eq_ofNat_of_zero_le (by omega)
        have hpg := hpa.ge
        have hcal : ∀ W, J F pre W → _ := fun W hW => Hcb.out F pre a W hW hpre
        have hpas : ∀ W, It W b g ca cs c x sw ws S → _ := fun W hW => past_any b g c x sw ws top (a + osz c ws a) a' (by omega) (by omega) hpa W hW.ar hW.laid
        simp only [obv, hn, Int.toNat_natCast] at hbl
        simp only [hdv] at hcal
        rw [hn] at hz hzl hpg hpas
        clear hs hn hpa
        generalize wat c ws (a + 1) = sr, kdOf (wat c ws a) = K, ptOf (wat c ws a) = P, rwOf (wat c ws a) = R, agOf (wat c ws a) = A, stOf (wat c ws a) = T, hdOf (wat c ws a) = H at hbl hcal
        have Hcal : Hid (∀ W, J F pre W → Calls Tryz.prog k #[B, .int .i64 a, hv sr K P R A T H] W fun r W' => Touch F W W' ∧ ((r = .returned (.bool true) ∧ ∃ F', Newer W.heap.size F F' ∧ J F' (pre ++ [a]) W') ∨ (r = .returned (.bool false) ∧ Jx (pre ++ [a]) W'))) := hcal
        have Hpas : Hid (∀ W, It W b g ca cs c x sw ws S → Calls Tryz.prog 129 #[.pointer (some ⟨b, 0, none⟩), .int .i64 top, .int .i64 (a + n)] W fun r w' => r = .returned (.int .i64 a') ∧ Below W.heap.size W w') := hpas
        clear hcal hpas hr
        go_wp2_with fail
        refine hbl.mono ?_
        rintro r w4 ⟨rfl, b5⟩
        have b6 := Below.alloc b5 b5.size (.cells (ocells sr K P R A T H (.slice (some ⟨g, a.toNat, none⟩) n n)) 124)
        have o6 := Oc.new w4 (ocells sr K P R A T H (.slice (some ⟨g, a.toNat, none⟩) n n))
        have hOF : w4.heap.size ∉ F := fun hm => by have := Hlt.out _ _ _ HJr.out _ hm; have := b5.size; omega
        clear hbl k1 k2 k4
        go_upto_region 4 with fail
        have hEc6 := hEc.below b6
        have htr6 := htr.trans (Touch.of_below b6 _)
        have hJ6 := Hbe.out _ _ _ _ HJr.out b6
        have HJ6 : Hid (J F pre _) := hJ6
        have hsz6 : W0.heap.size ≤ (w4.alloc (.cells (ocells sr K P R A T H (.slice (some ⟨g, a.toNat, none⟩) n n)) 124)).heap.size := htr6.size
        have hO6 := o6.lt
        clear hJ6 b5 b6 htr hEc HJr
        generalize (w4.alloc (.cells (ocells sr K P R A T H (.slice (some ⟨g, a.toNat, none⟩) n n)) 124)) = w5 at *
        generalize w4.heap.size = O at *
        have z0 : w5.cell? ⟨O, 0, none⟩ = some (.int .u64 sr) := o6.cell 0
        have z1 : w5.cell? ⟨O, 1, none⟩ = some (.int .i64 K) := o6.cell 1
        have z2 : w5.cell? ⟨O, 2, none⟩ = some (.int .i64 P) := o6.cell 2
        have z3 : w5.cell? ⟨O, 3, none⟩ = some (.int .i64 R) := o6.cell 3
        have z4 : w5.cell? ⟨O, 4, none⟩ = some (.int .i64 A) := o6.cell 4
        have z5 : w5.cell? ⟨O, 5, none⟩ = some (.int .i64 T) := o6.cell 5
        have z6 : w5.cell? ⟨O, 6, none⟩ = some (.bool H) := o6.cell 6
        go_wp2_with fail
        clear z0 z1 z2 z3 z4 z5 z6
        refine (Hcal.out w5 HJ6.out).mono ?_
        rintro r w6 ⟨t6, ⟨rfl, F', hn6, hJ7⟩ | ⟨rfl, hJx⟩⟩
        · have htr7 := htr6.newer t6 hnw
          have r7 := HI.out.touch hO htr7
          have hE7 : Ec w6 E f q top := ⟨(t6.block _ hEc6.lt hEr).trans hEc6.at_⟩
          have o7 : Oc w6 O (ocells sr K P R A T H (.slice (some ⟨g, a.toNat, none⟩) n n)) := ⟨(t6.block _ hO6 hOF).trans o6.at_⟩
          have hEr7 := hn6.not hEc6.lt hEr
          have hnw7 := hnw.trans hn6 hsz6
          have HJ7 : Hid (J F' (pre ++ [a]) w6) := hJ7
          have k1 := r7.ca
          have k4 := hE7.c2
          have z7 : w6.cell? ⟨O, 7, none⟩ = some (.slice (some ⟨g, a.toNat, none⟩) n n) := o7.cell 7
          have hpc := Hpas.out w6 r7
          clear r7 o7 t6 hJ7 hn6 hEc6 htr6 o6 HJ6 hnw
          go_wp2_with fail
          refine hpc.mono ?_
          rintro r w7 ⟨rfl, b8⟩
          have hE8 := hE7.below b8
          have hJ8 := Hbe.out _ _ _ _ HJ7.out b8
          have htr8 := htr7.trans (Touch.of_below b8 _)
          clear hpc k1 k4 z7 htr7 b8 hE7 HJ7
          go_wp2
          go_roundw
          case rel => exact ⟨a', pre ++ [a], l', F', rfl, by omega, by rw [hl]; simp, Hw'.out, hJ8, htr8, hnw7, hEr7, hE8⟩
          case measure => simp [intOf]; omega
        · have htr7 := htr6.newer t6 hnw
          clear t6 hEc6 htr6 o6 HJ6
          go_wp2
          go_returns
          exact ⟨rfl, htr7, .inr ⟨pre ++ [a], hpre, by simp, hJx⟩⟩
      · have hbl := below_no b g c x sw ws top a ha hat (by omega) hs wr hr.ar hr.laid
        have hre : rest = [] := by
          rcases Hw.out with _ | _ | ⟨_, h2, _, _⟩
          · rfl
          · rfl
          · exact absurd h2 hs
        clear hr
        go_wp2_with fail
        refine hbl.mono ?_
        rintro r w4 ⟨rfl, b5⟩
        have b6 := Below.alloc b5 b5.size (.cells ozero 124)
        clear hbl
        go_wp2
        go_returns
        subst hre
        rw [List.append_nil] at hl
        subst hl
        exact ⟨rfl, htr.trans (Touch.of_below b6 _), .inl ⟨F, hnw, Hbe.out _ _ _ _ HJr.out b6⟩⟩
    · have hre : rest = [] := by
        rcases Hw.out with _ | _ | ⟨h2, _, _, _⟩
        · rfl
        · rfl
        · exact absurd h2 hat
      clear hr
      go_wp2
      go_returns
      subst hre
      rw [List.append_nil] at hl
      subst hl
      exact ⟨rfl, htr, .inl ⟨F, hnw, HJr.out⟩⟩

end Go.Proofs.YtbgnagjhkfkekaaGreatDoor

