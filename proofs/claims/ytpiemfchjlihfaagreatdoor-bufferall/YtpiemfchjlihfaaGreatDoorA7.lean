/-
  Objects where they stand.
-/
import Derived.Test.YtpiemfchjlihfaaGreatDoorPAb
set_option linter.unusedVariables false
namespace Go.Proofs.YtpiemfchjlihfaaGreatDoor
open Go.RowKit

theorem Laid.blocks {w w' : World} (h : Laid w) (h0 : w'.heap[1]? = w.heap[1]?) (h1 : w'.heap[0]? = w.heap[0]?) : Laid w' := by
  have k0 : ∀ j v, w.cell? ⟨1, j, none⟩ = some v → w'.cell? ⟨1, j, none⟩ = some v := fun j v hc => (World.cell?_of_block (w := w) (by exact h0)).trans hc
  have k1 : ∀ j v, w.cell? ⟨0, j, none⟩ = some v → w'.cell? ⟨0, j, none⟩ = some v := fun j v hc => (World.cell?_of_block (w := w) (by exact h1)).trans hc
  obtain ⟨⟨a0, a1, a2, a3, a4, a5, a6, a7, a8⟩, ⟨b0, b1, b2, b3, b4, b5, b6, b7, b8, b9⟩⟩ := h
  exact ⟨⟨k0 _ _ a0, k0 _ _ a1, k0 _ _ a2, k0 _ _ a3, k0 _ _ a4, k0 _ _ a5, k0 _ _ a6, k0 _ _ a7, k0 _ _ a8⟩, ⟨k1 _ _ b0, k1 _ _ b1, k1 _ _ b2, k1 _ _ b3, k1 _ _ b4, k1 _ _ b5, k1 _ _ b6, k1 _ _ b7, k1 _ _ b8, k1 _ _ b9⟩⟩

theorem Laid.lt0 {w : World} (h : Laid w) : 1 < w.heap.size := World.block_lt_of_cell? _ _ h.b.1
theorem Laid.lt1 {w : World} (h : Laid w) : 0 < w.heap.size := World.block_lt_of_cell? _ _ h.k.1

theorem Laid.touch {w w' : World} {F : List Nat} (h : Laid w) (t : Touch F w w') (h0 : 1 ∉ F) (h1 : 0 ∉ F) : Laid w' :=
  h.blocks (t.block _ h.lt0 h0) (t.block _ h.lt1 h1)

set_option maxHeartbeats 400000 in
theorem size_any3 (s k p r a t : Int) (h : Bool) (p0 : 0 ≤ p) (p1 : p ≤ 4095) (r0 : 0 ≤ r) (r1 : r ≤ 65535) (w : World) :
    Calls Tryz.prog 63 #[hv s k p r a t h] w fun e w' => e = .returned (.int .i64 (2 + p + r)) ∧ w' = w.alloc (.cells (hcells s k p r a t h) 46) := by
  go_enter Tryz.func63, Tryz.ntmps63
  go_wp2
  go_ret
  exact ⟨rfl, rfl⟩

set_option maxHeartbeats 2000000 in
theorem write_any (b g : Nat) (c : Cfg) (x : Tps) (sw : Bool) (ws : Nat → Int) (p : Nat) (m s : Int) (hm : Wd m) (hs : Wd s) (hp : (p : Int) + 1 < c.words) (w : World) (h : Ar w b g c x sw ws) :
    Calls Tryz.prog 64 #[.pointer (some ⟨b, 0, none⟩), .int .i64 p, .int .u64 m, .int .u64 s] w fun e w' => e = .returned (.tuple #[]) ∧ Ar w' b g c x sw (upd (upd ws p m) (p + 1) s) ∧ Touch [g] w w' := by
  have k := h.cell14
  have q := h.words
  have hA := (h.set p m hm).set (p + 1) s hs
  have hT : Touch [g] w ((w.setCell ⟨g, p, none⟩ (.int .u64 m)).setCell ⟨g, p + 1, none⟩ (.int .u64 s)) := (Touch.setCell _ _ _ (by simp)).trans (Touch.setCell _ _ _ (by simp))
  have c0 : w.cell? ⟨g, p, none⟩ = some (.int .u64 (ws p)) := h.row.cell (by omega)
  have c1 : w.cell? ⟨g, p + 1, none⟩ = some (.int .u64 (ws (p + 1))) := h.row.cell (by omega)
  have z0 := h.row.frozen p
  have z1 := h.row.frozen (p + 1)
  have d1 : (w.setCell ⟨g, p, none⟩ (.int .u64 m)).cell? ⟨g, p + 1, none⟩ = some (.int .u64 (ws (p + 1))) := by
    have := (h.set p m hm).row.cell (i := p + 1) (by omega)
    rw [this]; unfold upd; rw [if_neg (by omega)]
  have y1 := (h.set p m hm).row.frozen (p + 1)
  have k' := (h.set p m hm).cell14
  have hN : (c.words.toNat : Int) = c.words := Int.toNat_of_nonneg (by omega)
  generalize c.words.toNat = N at k k' hN
  generalize ws p = v0, ws (p + 1) = v1 at c0 c1 d1
  have Hr : Hid (Ar ((w.setCell ⟨g, p, none⟩ (.int .u64 m)).setCell ⟨g, p + 1, none⟩ (.int .u64 s)) b g c x sw (upd (upd ws p m) (p + 1) s) ∧ Touch [g] w ((w.setCell ⟨g, p, none⟩ (.int .u64 m)).setCell ⟨g, p + 1, none⟩ (.int .u64 s))) := ⟨hA, hT⟩
  clear h hA hT
  go_enter Tryz.func64, Tryz.ntmps64
  go_region
  go_returns
  exact ⟨rfl, Hr.out.1.keep rfl rfl, ⟨Hr.out.2.os, Hr.out.2.tape, Hr.out.2.output, Hr.out.2.size, Hr.out.2.block⟩⟩

/-- An object's size by its first word. -/
def osz (c : Cfg) (ws : Nat → Int) (a : Int) : Int := 2 + ptOf (wat c ws a) + rwOf (wat c ws a)

/-- An object stands at a (P3.7), in a space of that top. -/
def Stands (c : Cfg) (ws : Nat → Int) (top a : Int) : Prop := IsHead (wat c ws a) ∧ osz c ws a ≤ top - a

theorem pt_in (m : Int) : 0 ≤ ptOf m ∧ ptOf m ≤ 4095 := by unfold ptOf; omega
theorem rw_in (m : Int) : 0 ≤ rwOf m ∧ rwOf m ≤ 65535 := by unfold rwOf; omega

theorem osz_in (c : Cfg) (ws : Nat → Int) (a : Int) : 2 ≤ osz c ws a ∧ osz c ws a ≤ 69632 := by
  have := pt_in (wat c ws a); have := rw_in (wat c ws a)
  unfold osz; omega

/-- Its header as a value. -/
abbrev hdv (c : Cfg) (ws : Nat → Int) (a : Int) : Value := hv (wat c ws (a + 1)) (kdOf (wat c ws a)) (ptOf (wat c ws a)) (rwOf (wat c ws a)) (agOf (wat c ws a)) (stOf (wat c ws a)) (hdOf (wat c ws a))

abbrev ocells (s k p r a t : Int) (h : Bool) (v : Value) : Array Value := #[.int .u64 s, .int .i64 k, .int .i64 p, .int .i64 r, .int .i64 a, .int .i64 t, .bool h, v]
abbrev ov (s k p r a t : Int) (h : Bool) (v : Value) : Value := .agg (ocells s k p r a t h v)

/-- An object as below tells it. -/
abbrev obv (c : Cfg) (g : Nat) (ws : Nat → Int) (a : Int) : Value :=
  ov (wat c ws (a + 1)) (kdOf (wat c ws a)) (ptOf (wat c ws a)) (rwOf (wat c ws a)) (agOf (wat c ws a)) (stOf (wat c ws a)) (hdOf (wat c ws a)) (.slice (some ⟨g, a.toNat, none⟩) (osz c ws a).toNat (osz c ws a).toNat)

set_option maxHeartbeats 1000000 in
theorem below_above (b g : Nat) (top a : Int) (ha : top ≤ a) (w : World) :
    Calls Tryz.prog 101 #[.pointer (some ⟨b, 0, none⟩), .int .i64 top, .int .i64 a] w fun e w' => e = .returned (.tuple #[ov 0 0 0 0 0 0 false (.slice none 0 0), .bool false]) ∧ Below w.heap.size w w' := by
  go_enter Tryz.func101, Tryz.ntmps101
  go_wp2
  go_returns
  refine ⟨rfl, ?_⟩
  go_grown

theorem results_cell2 {P : Program} {fn : Func} {p u : Tmp} {ty : TypeId} (h : fn.results = #[.cell p ty, .tmp u]) {tmps : Array Value} {w : World} {v : Value} {A : Addr} (ha : tmps.getD p undef = .pointer (some A)) (hl : (loadVar ty A).run P w = .ok v w) :
    (results fn tmps).run P w = .ok (.tuple #[v, tmps.getD u undef]) w := by
  have ha' : tmps[p]?.getD undef = .pointer (some A) := by simpa using ha
  simp [results, h, ha', asAddr, hl]

theorem below_setRow {B : Nat} {w w' : World} (l : Below B w w') {R : Nat} (hR : B ≤ R) (cs : Array Value) : Below B w (w'.setRow R cs) :=
  ⟨l.os, l.tape, l.output, by have := l.size; simpa using this, fun k hk => (setRow_other _ _ _ _ (by omega)).trans (l.block k hk)⟩

theorem oinfo : (Tryz.prog.info? 146).map (·.size) = some 8 := by kernel_rfl

/-- Block R holds an object as below tells it. -/
structure Oc (w : World) (R : Nat) (cs : Array Value) : Prop where
  at_ : w.heap[R]? = some (.cells cs 146 (0, 0))

theorem Oc.new (w : World) (cs : Array Value) : Oc (w.alloc (.cells cs 146)) w.heap.size cs := ⟨heap_alloc_new w _⟩
theorem Oc.lt {w : World} {R : Nat} {cs : Array Value} (h : Oc w R cs) : R < w.heap.size := (Array.getElem?_eq_some_iff.1 h.at_).1
theorem Oc.below {w w' : World} {R : Nat} {cs : Array Value} (h : Oc w R cs) (l : Below w.heap.size w w') : Oc w' R cs := ⟨(l.block R h.lt).trans h.at_⟩

theorem Oc.load {w : World} {R : Nat} {s k p r a t : Int} {h : Bool} {v : Value} (o : Oc w R (ocells s k p r a t h v)) : (loadVar 146 ⟨R, 0, none⟩).run Tryz.prog w = .ok (ov s k p r a t h v) w :=
  run_loadVar_row w R 146 146 _ (0, 0) _ o.at_ Tryz.underlying146 rfl oinfo

abbrev ozero : Array Value := ocells 0 0 0 0 0 0 false (.slice none 0 0)

set_option maxHeartbeats 2000000 in
theorem below_no (b g : Nat) (c : Cfg) (x : Tps) (sw : Bool) (ws : Nat → Int) (top a : Int) (h0 : 0 ≤ a) (h1 : a < top) (h2 : top ≤ c.words) (hn : ¬ Stands c ws top a) (w : World) (h : Ar w b g c x sw ws) (hL : Laid w) :
    Calls Tryz.prog 101 #[.pointer (some ⟨b, 0, none⟩), .int .i64 top, .int .i64 a] w fun e w' => e = .returned (.tuple #[ov 0 0 0 0 0 0 false (.slice none 0 0), .bool false]) ∧ Below w.heap.size w w' := by
  obtain ⟨p, rfl⟩ := Int.eq_ofNat_of_zero_le h0
  have b0 : Below w.heap.size w (w.alloc (.cells ozero 146)) := Below.alloc (Below.refl _ _) (Nat.le_refl _) _
  have k14 := (h.below b0).cell14
  have kw := (h.below b0).cellW p h0 (by omega) p rfl
  have hL1 := hL.keep b0
  have o0 := Oc.new w ozero
  have q := h.words
  have wd := h.wat_wd (p : Int)
  unfold Stands osz at hn
  generalize wat c ws (p : Int) = m at kw hn wd
  have hN : (c.words.toNat : Int) = c.words := Int.toNat_of_nonneg (by omega)
  generalize c.words.toNat = N at k14 hN
  clear h hL
  by_cases hd : IsHead m
  · have hu := unpack_yes m wd hd _ hL1
    obtain ⟨p0, p1⟩ := pt_in m
    obtain ⟨r0, r1⟩ := rw_in m
    have hsz : ¬ 2 + ptOf m + rwOf m ≤ top - p := fun e => hn ⟨hd, e⟩
    clear hn hd
    generalize kdOf m = K, ptOf m = P, rwOf m = R, agOf m = A, stOf m = T, hdOf m = H at hu p0 p1 r0 r1 hsz
    go_enter Tryz.func101, Tryz.ntmps101
    go_wp2_with fail
    refine hu.mono ?_
    rintro e w1 ⟨rfl, b1⟩
    have o1 := o0.below b1
    have b2 := b0.trans (b1.mono b0.size)
    clear hu b0 b1 k14 kw hL1 o0
    go_wp2_with fail
    refine (size_any3 0 K P R A T H p0 p1 r0 r1 _).mono ?_
    rintro e w' ⟨rfl, hw⟩
    obtain ⟨w2, rfl, o2, b3⟩ : ∃ w2, w' = w2 ∧ Oc w2 w.heap.size ozero ∧ Below w.heap.size w w2 := by
      refine ⟨w', rfl, ?_, ?_⟩
      · rw [hw]; exact (o1.below (Below.alloc (Below.refl _ _) (Nat.le_refl _) _)).below (Below.alloc (Below.refl _ _) (Nat.le_refl _) _)
      · rw [hw]; exact Below.alloc (Below.alloc b2 b2.size _) (by have := b2.size; simp; omega) _
    clear hw o1 b2
    go_wp2_with (refine wpList_store_row rfl 146 _ _ rfl w.heap.size ozero rfl rfl 146 ozero o2.at_ oinfo rfl (by kernel_rfl) ?_)
    have o3 : Oc (w'.setRow w.heap.size ozero) w.heap.size ozero := ⟨setRow_heap _ _ _ _ _ _ o2.at_⟩
    have b4 := below_setRow b3 (Nat.le_refl _) ozero
    generalize w'.setRow w.heap.size ozero = w3 at *
    clear o2 b3
    go_wp2
    refine bodyPost_ret (results_cell2 Tryz.results101 rfl o3.load) rfl ?_
    exact ⟨rfl, b4⟩
  · have hu := unpack_no m wd hd _ hL1
    clear hn hd
    go_enter Tryz.func101, Tryz.ntmps101
    go_wp2_with fail
    refine hu.mono ?_
    rintro e w1 ⟨rfl, b1⟩
    have o1 := o0.below b1
    have b2 := b0.trans (b1.mono b0.size)
    clear hu b0 b1 k14 kw hL1 o0
    go_wp2_with fail
    refine (size_any3 0 0 0 0 0 0 false (by decide) (by decide) (by decide) (by decide) _).mono ?_
    rintro e w' ⟨rfl, hw⟩
    obtain ⟨w2, rfl, o2, b3⟩ : ∃ w2, w' = w2 ∧ Oc w2 w.heap.size ozero ∧ Below w.heap.size w w2 := by
      refine ⟨w', rfl, ?_, ?_⟩
      · rw [hw]; exact (o1.below (Below.alloc (Below.refl _ _) (Nat.le_refl _) _)).below (Below.alloc (Below.refl _ _) (Nat.le_refl _) _)
      · rw [hw]; exact Below.alloc (Below.alloc b2 b2.size _) (by have := b2.size; simp; omega) _
    clear hw o1 b2
    go_wp2_with (refine wpList_store_row rfl 146 _ _ rfl w.heap.size ozero rfl rfl 146 ozero o2.at_ oinfo rfl (by kernel_rfl) ?_)
    have o3 : Oc (w'.setRow w.heap.size ozero) w.heap.size ozero := ⟨setRow_heap _ _ _ _ _ _ o2.at_⟩
    have b4 := below_setRow b3 (Nat.le_refl _) ozero
    generalize w'.setRow w.heap.size ozero = w3 at *
    clear o2 b3
    go_wp2
    refine bodyPost_ret (results_cell2 Tryz.results101 rfl o3.load) rfl ?_
    exact ⟨rfl, b4⟩

end Go.Proofs.YtpiemfchjlihfaaGreatDoor
