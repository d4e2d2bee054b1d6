/-
  The state in memory: the world, what was put; Head, Ptr, Raw of an object that was put.
-/
import Derived.Test.YtpiemfchjlihfaaDoorBW1
import Derived.Test.YtpiemfchjlihfaaDoorPHa
import Derived.Test.YtpiemfchjlihfaaDoorPBc
set_option linter.unusedVariables false
set_option maxRecDepth 20000
namespace Go.Proofs.YtpiemfchjlihfaaDoor
open Go.RowKit Go.Shelf

set_option maxHeartbeats 2000000 in
theorem head_core (d : Bool) (b : Nat) (a s K P R A T : Int) (H : Bool) (ad : Option Addr) (n cap : Nat) (w : World)
    (ho : ∀ w1, Below w.heap.size w w1 → Calls Tryd.prog 59 #[.pointer (some ⟨b, 0, none⟩), .int .i64 a] w1 fun e w' => e = .returned (.tuple #[ov s K P R A T H (.slice ad n cap), .bool d]) ∧ Below w1.heap.size w1 w') :
    Calls Tryd.prog 37 #[.pointer (some ⟨b, 0, none⟩), .int .i64 a] w fun e w' => e = .returned (.tuple #[hv s K P R A T H, .bool d]) ∧ Below w.heap.size w w' := by
  have hX := Box.new w 38 (.int .u64 0) (.int .i64 0) (.int .i64 0) (.int .i64 0) (.int .i64 0) (.int .i64 0) (.bool false)
  have hb := Below.alloc (Below.refl w.heap.size w) (Nat.le_refl _) (.cells (hcells 0 0 0 0 0 0 false) 38)
  have h1 := ho _ hb
  have hxlt := hX.lt
  clear ho
  go_enter Tryd.func37, Tryd.ntmps37
  go_upto_region 1 with fail
  generalize (w.alloc (.cells (hcells 0 0 0 0 0 0 false) 38)) = w0 at *
  go_wp2_with fail
  refine h1.mono ?_
  rintro e w1 ⟨rfl, l1⟩
  have b1 := hb.trans (l1.mono hb.size)
  have hX1 := hX.keep l1 hxlt
  have hx1 := hX1.lt
  clear h1 hb hX l1 hxlt
  go_upto_region 2 with fail
  have hX2 := hX1.keep (Below.alloc (Below.refl _ _) (Nat.le_refl _) (.cells (ocells s K P R A T H (.slice ad n cap)) 125)) hx1
  have b2 := Below.alloc b1 b1.size (.cells (ocells s K P R A T H (.slice ad n cap)) 125)
  have hy : ∀ j, (w1.alloc (.cells (ocells s K P R A T H (.slice ad n cap)) 125)).cell? ⟨w1.heap.size, j, none⟩ = (ocells s K P R A T H (.slice ad n cap))[j]? := fun j => cell_of_row _ _ j _ _ _ (heap_alloc_new w1 (.cells (ocells s K P R A T H (.slice ad n cap)) 125 (0, 0)))
  have hne : w.heap.size ≠ w1.heap.size := by omega
  generalize (w1.alloc (.cells (ocells s K P R A T H (.slice ad n cap)) 125)) = w2 at *
  have y0 : w2.cell? ⟨w1.heap.size, 0, none⟩ = some (.int .u64 s) := hy 0
  have y1 : w2.cell? ⟨w1.heap.size, 1, none⟩ = some (.int .i64 K) := hy 1
  have y2 : w2.cell? ⟨w1.heap.size, 2, none⟩ = some (.int .i64 P) := hy 2
  have y3 : w2.cell? ⟨w1.heap.size, 3, none⟩ = some (.int .i64 R) := hy 3
  have y4 : w2.cell? ⟨w1.heap.size, 4, none⟩ = some (.int .i64 A) := hy 4
  have y5 : w2.cell? ⟨w1.heap.size, 5, none⟩ = some (.int .i64 T) := hy 5
  have y6 : w2.cell? ⟨w1.heap.size, 6, none⟩ = some (.bool H) := hy 6
  clear hX1 b1 hx1 hy
  generalize w1.heap.size = B7 at *
  have hne' : B7 ≠ w.heap.size := fun e => hne e.symm
  obtain ⟨x0, x1, x2, x3, x4, x5, x6, f0, f1, f2, f3, f4, f5, f6⟩ := hX2
  go_wp2
  refine bodyPost_ret (by simp [results, Tryd.results37, go_sem, x0, x1, x2, x3, x4, x5, x6]; try rfl) rfl ?_
  refine ⟨rfl, ?_⟩
  go_grown

/-- What a thing's nine cells hold. -/
abbrev Ob.cells (T : Ob) : Array Value := #[.int .i64 T.at_, .int .u64 T.s, .int .i64 T.k, .int .i64 T.p, .int .i64 T.r, .int .i64 T.a, .int .i64 T.y, .bool T.h, .slice (some ⟨T.gr, 0, none⟩) T.r T.r]

def oflat (th : List Ob) : List Value := (th.map fun T => T.cells.toList).flatten

theorem oflat_at : ∀ (l : List Ob) (i : Nat) (T : Ob) (j : Nat), l[i]? = some T → j < 9 → (oflat l)[i * 9 + j]? = T.cells[j]? := by
  intro l
  induction l with
  | nil => intro i T j h; simp at h
  | cons y l ih =>
    intro i T j h hj
    have e : oflat (y :: l) = y.cells.toList ++ oflat l := by simp [oflat]
    rw [e]
    cases i with
    | zero =>
      simp at h
      subst h
      rw [List.getElem?_append_left (by simpa using hj)]
      simp
    | succ i =>
      rw [List.getElem?_append_right (by simp; omega)]
      have : (i + 1) * 9 + j - y.cells.toList.length = i * 9 + j := by simp; omega
      rw [this]
      exact ih i T j (by simpa using h) hj

theorem oflat_len (l : List Ob) : (oflat l).length = l.length * 9 := by
  induction l with
  | nil => rfl
  | cons y l ih =>
    have e : oflat (y :: l) = y.cells.toList ++ oflat l := by simp [oflat]
    rw [e, List.length_append, ih]
    simp
    omega

/-- What was put, in memory. -/
structure Mo (w : World) (n0 ag : Nat) (lv : Value) (Th : List Ob) : Prop where
  row : w.ownsRow n0 56 9 lv Th.length (oflat Th)
  rb : ∀ T, T ∈ Th → w.rowIs T.gr 36 T.r (fun j => .int .u64 (T.raws j)) ∧ n0 ≤ T.gr ∧ T.gr ≠ ag
  dp : ∀ (i j : Nat) T U, Th[i]? = some T → Th[j]? = some U → i ≠ j → T.gr ≠ U.gr

theorem Mo.keep {w w' : World} {n0 ag : Nat} {lv : Value} {Th : List Ob} (h : Mo w n0 ag lv Th) (hl : ∀ q, lv.ownBlock = some q → w'.heap[q]? = w.heap[q]?) (hr : ∀ T, T ∈ Th → w'.heap[T.gr]? = w.heap[T.gr]?) : Mo w' n0 ag lv Th :=
  ⟨row_keep h.row hl, fun T hT => ⟨(h.rb T hT).1.of_block (hr T hT), (h.rb T hT).2⟩, h.dp⟩

theorem Mo.below {w w' : World} {n0 ag : Nat} {lv : Value} {Th : List Ob} (h : Mo w n0 ag lv Th) (l : Below w.heap.size w w') : Mo w' n0 ag lv Th :=
  h.keep (fun q hq => l.block q (row_lt h.row q hq)) (fun T hT => l.block _ (h.rb T hT).1.lt)

theorem Mo.sl {w : World} {n0 ag : Nat} {lv : Value} {Th : List Ob} (H : Mo w n0 ag lv Th) : ∃ a0 cap, lv = .slice a0 Th.length cap := by
  rcases H.row.2 with ⟨h1, h2⟩ | ⟨q, cap, cur, h1, _⟩
  · exact ⟨none, 0, by rw [h1, h2]⟩
  · exact ⟨_, _, h1⟩

theorem Mo.cell {w : World} {n0 ag : Nat} {a0 : Option Addr} {cap : Nat} {Th : List Ob} (H : Mo w n0 ag (.slice a0 Th.length cap) Th) {i : Nat} {T : Ob} (hT : Th[i]? = some T) : ∃ q, a0 = some ⟨q, 0, none⟩ ∧ q < w.heap.size ∧ ∀ j, j < 9 → w.cell? ⟨q, i * 9 + j, none⟩ = T.cells[j]? := by
  have hi := (List.getElem?_eq_some_iff.1 hT).1
  rcases H.row.2 with ⟨h1, h2⟩ | ⟨q, cap', cur, h1, _, hg, hn, _, hs, ht⟩
  · omega
  · simp only [Value.slice.injEq] at h1
    refine ⟨q, h1.1, (Array.getElem?_eq_some_iff.1 hg).1, fun j hj => ?_⟩
    rw [cell_of_row _ _ (i * 9 + j) _ _ _ hg, ← oflat_at Th i T j hT hj, ← ht, List.getElem?_take, if_pos (by omega), Array.getElem?_toList]

abbrev xt (c : Cfg) (top : Nat) : Tps := ⟨top, 1 + c.eden, 1 + c.eden + c.surv, 1 + c.eden + c.surv + c.surv⟩

/-- The whole state. -/
structure Ws (n0 : Nat) (w : World) (wb b ab ag nt : Nat) (c : Cfg) (top : Nat) (ws : Nat → Int) (B : Bfs) (L : List Sg) (Th : List Ob) (lv : Value) : Prop where
  bw : Bw n0 w b ab ag c (xt c top) ws B
  wo : Wo (xt c top) ws B top L Th
  wq : w.heap[wb]? = some (.cells #[.pointer (some ⟨ab, 0, none⟩), .pointer (some ⟨b, 0, none⟩), .int .i64 nt, lv] 52 (0, 0))
  mo : Mo w n0 ag lv Th
  lo : n0 ≤ wb
  nt : B.n = nt

section
variable {n0 : Nat} {w w' : World} {wb b ab ag nt : Nat} {c : Cfg} {top : Nat} {ws : Nat → Int} {B : Bfs} {L : List Sg} {Th : List Ob} {lv : Value}

theorem Ws.below (S : Ws n0 w wb b ab ag nt c top ws B L Th lv) (l : Below w.heap.size w w') : Ws n0 w' wb b ab ag nt c top ws B L Th lv :=
  ⟨S.bw.below l, S.wo, (l.block wb (Array.getElem?_eq_some_iff.1 S.wq).1).trans S.wq, S.mo.below l, S.lo, S.nt⟩

theorem Ws.wp (S : Ws n0 w wb b ab ag nt c top ws B L Th lv) : Wp w wb ab b nt :=
  ⟨cell_of_row _ _ 0 _ _ _ S.wq, cell_of_row _ _ 1 _ _ _ S.wq, cell_of_row _ _ 2 _ _ _ S.wq⟩

theorem Ws.c3 (S : Ws n0 w wb b ab ag nt c top ws B L Th lv) : w.cell? ⟨wb, 3, none⟩ = some lv := cell_of_row _ _ 3 _ _ _ S.wq

theorem Ws.topl (S : Ws n0 w wb b ab ag nt c top ws B L Th lv) : top ≤ 65537 ∧ (top : Int) ≤ 1 + c.eden := by
  have h : (top : Int) ≤ 1 + c.eden := S.bw.ar.t11
  have := S.bw.ar.ok.e1
  exact ⟨by omega, h⟩

/-- An object that was put stands. -/
theorem Ws.stands (S : Ws n0 w wb b ab ag nt c top ws B L Th lv) {T : Ob} (hT : T ∈ Th) : spc c T.at_ = 1 ∧ (T.at_ : Int) < top ∧ Stands c ws top T.at_ ∧ wat c ws T.at_ = T.m ∧ wat c ws (T.at_ + 1) = T.s ∧ (∀ j : Nat, j < T.p → wat c ws ((T.at_ : Int) + 2 + j) = 0) ∧ (∀ j : Nat, j < T.r → wat c ws ((T.at_ : Int) + 2 + T.p + j) = T.raws j) ∧ T.at_ + T.n ≤ top := by
  have hI := S.wo.th T hT
  have hin := hI.at_.in
  have htop := S.wo.ch.top
  have hl := S.topl
  have hTn : T.n = 2 + T.p + T.r := rfl
  simp only at hin
  have hs := S.wo.ch.is hI.at_
  have s0 := S.bw.ar.ok.s0
  have t0 := S.bw.ar.ok.t0
  have hwat : ∀ j : Nat, j < top → wat c ws j = ws j := fun j hj => by
    unfold wat
    rw [if_pos ⟨by omega, by unfold Cfg.words; omega⟩]
    simp
  have e0 : wat c ws T.at_ = T.m := (hwat _ (by omega)).trans hs.1
  refine ⟨?_, by omega, ⟨by rw [e0]; exact hs.2.1, ?_⟩, e0, ?_, fun j hj => ?_, fun j hj => ?_, by omega⟩
  · unfold spc
    rw [if_neg (by omega), if_pos (by omega)]
  · unfold osz
    rw [e0, hs.2.2.1]
    show ((T.n : Nat) : Int) ≤ _
    omega
  · have := hwat (T.at_ + 1) (by omega)
    rw [show (T.at_ : Int) + 1 = ((T.at_ + 1 : Nat) : Int) by omega, this]
    exact hs.2.2.2
  · rw [show (T.at_ : Int) + 2 + j = ((T.at_ + 2 + j : Nat) : Int) by omega, hwat _ (by omega)]
    exact hI.ptr j hj
  · rw [show (T.at_ : Int) + 2 + T.p + j = ((T.at_ + 2 + T.p + j : Nat) : Int) by omega, hwat _ (by omega)]
    exact hI.raw j hj

theorem Ob.Is.parts {T : Ob} {ws : Nat → Int} {L : List Sg} (h : T.Is ws L) : kdOf T.m = T.k ∧ ptOf T.m = T.p ∧ rwOf T.m = T.r ∧ agOf T.m = T.a ∧ stOf T.m = T.y ∧ hdOf T.m = T.h := by
  obtain ⟨h1, h2, h3, h4, h5, h6, -⟩ := parts_wrd (h := T.h) (May.of h.f)
  exact ⟨h1, h2, h3, h4, h5, h6⟩

theorem Ws.head (S : Ws n0 w wb b ab ag nt c top ws B L Th lv) {T : Ob} (hT : T ∈ Th) :
    Calls Tryd.prog 37 #[.pointer (some ⟨ab, 0, none⟩), .int .i64 T.at_] w fun e w' => e = .returned (.tuple #[hv T.s T.k T.p T.r T.a T.y T.h, .bool true]) ∧ Below w.heap.size w w' := by
  obtain ⟨h1, h2, h3, h4, h5, -⟩ := S.stands hT
  obtain ⟨p1, p2, p3, p4, p5, p6⟩ := (S.wo.th T hT).parts
  have := head_core true ab T.at_ _ _ _ _ _ _ _ _ _ _ w (fun w1 l => object_yes ab ag c (xt c top) false ws T.at_ 1 h1 (by decide) h2 h3 w1 (S.bw.ar.below l) (S.bw.ld.keep l))
  rw [h4, h5, p1, p2, p3, p4, p5, p6] at this
  exact this

theorem Ws.ptr (S : Ws n0 w wb b ab ag nt c top ws B L Th lv) {T : Ob} (hT : T ∈ Th) {i : Nat} (hi : i < T.p) :
    Calls Tryd.prog 38 #[.pointer (some ⟨ab, 0, none⟩), .int .i64 T.at_, .int .i64 i] w fun e w' => e = .returned (.tuple #[.int .i64 0, .bool true]) ∧ Below w.heap.size w w' := by
  obtain ⟨h1, h2, h3, h4, h5, h6, -⟩ := S.stands hT
  obtain ⟨p1, p2, p3, p4, p5, p6⟩ := (S.wo.th T hT).parts
  have e := h6 i hi
  have := ptr_yes ab ag c (xt c top) false ws T.at_ 1 i h1 (by decide) h2 h3 (by rw [h4, p2]; omega) (by rw [e]; have := S.bw.ar.words; omega) w S.bw.ar S.bw.ld
  rw [e] at this
  exact this

theorem Ws.raw (S : Ws n0 w wb b ab ag nt c top ws B L Th lv) {T : Ob} (hT : T ∈ Th) {i : Nat} (hi : i < T.r) :
    Calls Tryd.prog 39 #[.pointer (some ⟨ab, 0, none⟩), .int .i64 T.at_, .int .i64 i] w fun e w' => e = .returned (.tuple #[.int .u64 (T.raws i), .bool true]) ∧ Below w.heap.size w w' := by
  obtain ⟨h1, h2, h3, h4, h5, h6, h7, -⟩ := S.stands hT
  obtain ⟨p1, p2, p3, p4, p5, p6⟩ := (S.wo.th T hT).parts
  have e := h7 i hi
  have := raw_yes ab ag c (xt c top) false ws T.at_ 1 i h1 (by decide) h2 h3 (by rw [h4, p3]; omega) w S.bw.ar S.bw.ld
  rw [h4, p2, e] at this
  exact this

end

end Go.Proofs.YtpiemfchjlihfaaDoor
