/-
  The statements' objects.
-/
import Derived.Test.YtbdkcelggffneaaDoorA15
set_option linter.unusedVariables false
namespace Go.Proofs.YtbdkcelggffneaaDoor
open Go.RowKit Go.Shelf

/-- A new taker's cells. -/
def tkf (mo : Int) : Nat → Value := fun j => if j = 0 then nilS else if j = 1 then nilS else if j = 2 then .int .i64 0 else if j = 3 then .int .i64 mo else .bool false
abbrev tkc (mo : Int) : Array Value := #[nilS, nilS, .int .i64 0, .int .i64 mo, .bool false, .bool false]

theorem Tk.new (w : World) (mo : Int) : Tk (w.alloc (.cells (tkc mo) 62)) w.heap.size 62 6 0 (tkf mo) 0 mo [] [] nilS nilS false :=
  ⟨World.rowIs_alloc w (tkc mo) 62 (tkf mo) (by
    intro i hi
    match i, hi with
    | 0, _ | 1, _ | 2, _ | 3, _ | 4, _ | 5, _ => rfl
    | j + 6, h => exact absurd (show j + 6 < 6 from h) (by omega)), by decide, rfl, rfl, rfl, rfl, rfl, rfl, World.ownsRow_nil _ _ _ _, World.ownsRow_nil _ _ _ _, by decide, by decide⟩

abbrev itv (ca cs : Nat) : Value := .func (.func 58) #[] #[.pointer (some ⟨ca, 0, none⟩), .pointer (some ⟨cs, 0, none⟩)]

def wnf (iv : Value) (mo : Int) : Nat → Value := fun j => if j = 0 then iv else if j = 1 then nilS else if j = 2 then nilS else if j = 3 then .int .i64 0 else if j = 4 then .int .i64 mo else if j = 5 then .bool false else if j = 6 then .bool false else if j = 7 then nilS else if j = 8 then nilS else if j = 9 then .int .i64 0 else if j = 10 then .int .i64 0 else .bool false
abbrev wnc (iv : Value) (mo : Int) : Array Value := #[iv, nilS, nilS, .int .i64 0, .int .i64 mo, .bool false, .bool false, nilS, nilS, .int .i64 0, .int .i64 0, .bool false, .bool false]

theorem Tk.newW (w : World) (iv : Value) (mo : Int) : Tk (w.alloc (.cells (wnc iv mo) 100)) w.heap.size 100 13 1 (wnf iv mo) 0 mo [] [] nilS nilS false :=
  ⟨World.rowIs_alloc w (wnc iv mo) 100 (wnf iv mo) (by
    intro i hi
    match i, hi with
    | 0, _ | 1, _ | 2, _ | 3, _ | 4, _ | 5, _ | 6, _ | 7, _ | 8, _ | 9, _ | 10, _ | 11, _ | 12, _ => rfl
    | j + 13, h => exact absurd (show j + 13 < 13 from h) (by omega)), by decide, rfl, rfl, rfl, rfl, rfl, rfl, World.ownsRow_nil _ _ _ _, World.ownsRow_nil _ _ _ _, by decide, by decide⟩

theorem it_nil (ca cs : Nat) (w : World) : (binOp .eql 96 (itv ca cs) .nilFunc).run Tryd.prog w = .ok (.bool false) w := by kernel_rfl

theorem It.new {w : World} {b g : Nat} {c : Cfg} {x : Tps} {sw : Bool} {ws : Nat → Int} (hA : Ar w b g c x sw ws) (hL : Laid w) (S : Int) : It ((w.alloc (.cells #[.pointer (some ⟨b, 0, none⟩)] 26)).alloc (.cells #[.int .i64 S] 3)) b g w.heap.size (w.heap.size + 1) c x sw ws S := by
  have l : Below w.heap.size w ((w.alloc (.cells #[.pointer (some ⟨b, 0, none⟩)] 26)).alloc (.cells #[.int .i64 S] 3)) := Below.alloc (Below.alloc (Below.refl _ _) (Nat.le_refl _) _) (by simp) _
  refine ⟨hA.below l, hL.keep l, ?_, ?_⟩
  · exact cell_of_row _ _ 0 _ _ _ ((Below.heap_alloc _ _ _ (by simp)).trans (heap_alloc_new w (.cells #[.pointer (some ⟨b, 0, none⟩)] 26 (0, 0))))
  · have := heap_alloc_new (w.alloc (.cells #[.pointer (some ⟨b, 0, none⟩)] 26)) (.cells #[.int .i64 S] 3 (0, 0))
    rw [World.size_alloc] at this
    exact cell_of_row _ _ 0 _ _ _ this

theorem hcl_at (c : Cfg) (ws : Nat → Int) : ∀ (l : List Int) (i : Nat) (a : Int) (j : Nat), l[i]? = some a → j < 7 → (hcl c ws l)[i * 7 + j]? = (hcells (wat c ws (a + 1)) (kdOf (wat c ws a)) (ptOf (wat c ws a)) (rwOf (wat c ws a)) (agOf (wat c ws a)) (stOf (wat c ws a)) (hdOf (wat c ws a)))[j]? := by
  intro l
  induction l with
  | nil => intro i a j h; simp at h
  | cons y l ih =>
    intro i a j h hj
    have e : hcl c ws (y :: l) = (hcells (wat c ws (y + 1)) (kdOf (wat c ws y)) (ptOf (wat c ws y)) (rwOf (wat c ws y)) (agOf (wat c ws y)) (stOf (wat c ws y)) (hdOf (wat c ws y))).toList ++ hcl c ws l := by simp [hcl]
    rw [e]
    cases i with
    | zero =>
      simp at h
      subst h
      rw [List.getElem?_append_left (by simpa using hj)]
      simp
    | succ i =>
      rw [List.getElem?_append_right (by simp; omega)]
      have : (i + 1) * 7 + j - (hcells (wat c ws (y + 1)) (kdOf (wat c ws y)) (ptOf (wat c ws y)) (rwOf (wat c ws y)) (agOf (wat c ws y)) (stOf (wat c ws y)) (hdOf (wat c ws y))).toList.length = i * 7 + j := by simp; omega
      rw [this]
      exact ih i a j (by simpa using h) hj

/-- Heads in a row, cell by cell. -/
structure Heads (w : World) (c : Cfg) (ws : Nat → Int) (v : Value) (xs : List Int) : Prop where
  at_ : ∀ (i : Nat) a, xs[i]? = some a → ∃ g cap, v = .slice (some ⟨g, 0, none⟩) xs.length cap ∧ ∀ j, j < 7 → w.cell? ⟨g, i * 7 + j, none⟩ = (hcells (wat c ws (a + 1)) (kdOf (wat c ws a)) (ptOf (wat c ws a)) (rwOf (wat c ws a)) (agOf (wat c ws a)) (stOf (wat c ws a)) (hdOf (wat c ws a)))[j]?

theorem Tk.heads {w : World} {tb T N o : Nat} {f : Nat → Value} {st mo : Int} {xs : List Int} {c : Cfg} {ws : Nat → Int} {va vh : Value} {dn : Bool} (h : Tk w tb T N o f st mo xs (hcl c ws xs) va vh dn) : Heads w c ws vh xs := by
  refine ⟨fun i a hx => ?_⟩
  have hi := (List.getElem?_eq_some_iff.1 hx).1
  rcases h.rh.2 with ⟨rfl, h0⟩ | ⟨g, cap, cur, rfl, _, hg, hn, _, hs, ht⟩
  · omega
  · refine ⟨g, cap, rfl, fun j hj => ?_⟩
    rw [cell_of_row _ _ (i * 7 + j) _ _ _ hg, ← hcl_at c ws xs i a j hx hj, ← ht, List.getElem?_take, if_pos (by omega), Array.getElem?_toList]

set_option maxRecDepth 4000 in
set_option maxHeartbeats 8000000 in
theorem objects3_any (b g : Nat) (c : Cfg) (x : Tps) (sw : Bool) (ws : Nat → Int) (S : Int) (l : List Int) (p e : Int) (hp : Past c ws (x.top S) (fst c S) p) (hwk : Walk c ws (x.top S) p l e) (mo : Int) (hl : (l.length : Int) ≤ mo) (hl2 : l.length < 1000000)
    (w : World) (hA : Ar w b g c x sw ws) (hL : Laid w) :
    Calls Tryd.prog 27 #[.pointer (some ⟨b, 0, none⟩), .int .i64 S, .int .i64 0, .int .i64 mo] w fun r w' => ∃ tb f va vh, r = .returned (.tuple #[.pointer (some ⟨tb, 0, none⟩), .bool true]) ∧ Tk w' tb 62 6 0 f 0 mo l (hcl c ws l) va vh false ∧ Below w.heap.size w w' := by
  have b0 : Below w.heap.size w (w.alloc (.cells (tkc mo) 62)) := Below.alloc (Below.refl _ _) (Nat.le_refl _) _
  have k0 := Tk.new w mo
  have i0 := It.new (hA.below b0) (hL.keep b0) S
  have hbl := hA.own.lt
  have hgl := hA.row.lt
  have h0l := hL.lt0
  have h1l := hL.lt1
  clear hA hL
  go_enter Tryd.func27, Tryd.ntmps27
  go_upto_region 2 with fail
  have hsz0 : Hid ((w.alloc (.cells (tkc mo) 62)).heap.size = w.heap.size + 1) := by show _ = _; simp
  generalize (w.alloc (.cells (tkc mo) 62)) = w1 at *
  go_wp2_with fail
  refine (objects_any b S w1).mono ?_
  rintro r w2 ⟨rfl, hw2⟩
  rw [← hw2] at i0
  have b1 : Below w1.heap.size w1 w2 := by rw [hw2]; exact Below.alloc (Below.alloc (Below.refl _ _) (Nat.le_refl _) _) (by simp) _
  have BW : Hid (Below w.heap.size w w2) := b0.trans (b1.mono b0.size)
  have k1 := k0.below b1
  have hca := hsz0.out
  clear hw2 k0 b0
  obtain ⟨ca, hca'⟩ : ∃ ca, ca = w1.heap.size := ⟨_, rfl⟩
  rw [← hca'] at i0 hca ⊢
  have hnil := it_nil ca (ca + 1)
  have HS : Hid (ca = w.heap.size + 1 ∧ w.heap.size ≤ w2.heap.size) := ⟨hca, by have := b1.size; omega⟩
  clear hca hca' hsz0 b1
  have hO : ∀ q, w.heap.size ≤ q → q ≠ ca → q ≠ ca + 1 → Off [q] b g ca (ca + 1) := fun q h1 h2 h3 => ⟨by simp; omega, by simp; omega, by simp; omega, by simp; omega, by simp; omega, by simp; omega⟩
  have HO : Hid (∀ q, w.heap.size ≤ q → q ≠ ca → q ≠ ca + 1 → Off [q] b g ca (ca + 1)) := hO
  have hwt := walk_taker b g ca (ca + 1) c x sw ws S l p e hp hwk w2 i0 w.heap.size 62 6 0 (tkf mo) mo hl hl2 k1 (hO _ (Nat.le_refl _) (by have := HS.out.1; omega) (by have := HS.out.1; omega))
  have I0 : Hid (It w2 b g ca (ca + 1) c x sw ws S) := i0
  clear i0 k1 hO
  go_wp2_with fail
  refine hwt.mono ?_
  rintro r w3 ⟨rfl, f3, va, vh, k3, -, t3, -, -⟩
  clear hwt
  have i3 := I0.out.touch (HO.out _ (Nat.le_refl _) (by have := HS.out.1; omega) (by have := HS.out.1; omega)) t3
  have hs3 : Hid (w2.heap.size ≤ w3.heap.size) := t3.size
  have hci : ca + 1 < w3.heap.size := World.block_lt_of_cell? _ _ i3.cs
  have T3 : Hid (Touch [w.heap.size] w2 w3) := t3
  have b4 : Below w3.heap.size w3 (w3.alloc (.cells (tkc mo) 62)) := Below.alloc (Below.refl _ _) (Nat.le_refl _) _
  have i4 := i3.below b4
  have k4 := Tk.new w3 mo
  have K3 : Hid (Tk w3 w.heap.size 62 6 0 f3 0 mo l (hcl c ws l) va vh false) := k3
  clear k3 t3 i3 I0
  go_upto_region 7 with fail
  have hwl : w.heap.size < w3.heap.size := by have := hs3.out; have := HS.out.2; have := K3.out.row.lt; omega
  have K4 : Hid (Tk (w3.alloc (.cells (tkc mo) 62)) w.heap.size 62 6 0 f3 0 mo l (hcl c ws l) va vh false) := K3.out.below b4
  have hwt := walk_taker b g ca (ca + 1) c x sw ws S l p e hp hwk _ i4 w3.heap.size 62 6 0 (tkf mo) mo hl hl2 k4 (HO.out _ (by omega) (by omega) (by omega))
  have I4 : Hid (It (w3.alloc (.cells (tkc mo) 62)) b g ca (ca + 1) c x sw ws S) := i4
  clear i4 k4
  generalize (w3.alloc (.cells (tkc mo) 62)) = w4 at *
  go_wp2_with fail
  refine hwt.mono ?_
  rintro r w5 ⟨rfl, f5, va2, vh2, k5, -, t5, -, -⟩
  clear hwt
  have k5' : Tk w5 w.heap.size 62 6 0 f3 0 mo l (hcl c ws l) va vh false := K4.out.keep (fun q hq => t5.block q (K4.out.footLt q hq) (by
    simp
    have := K3.out.footLt q hq
    omega))
  have b5 : Below w3.heap.size w3 w5 := (b4.trans ((t5.below (B := w3.heap.size) b4.size (fun q hq => by simp at hq; omega))))
  have i5 := I4.out.touch (HO.out _ (by omega) (by omega) (by omega)) t5
  have hb25 : Hid (Below w3.heap.size w3 w5) := b5
  clear b4 b5 t5 K4 K3 I4
  obtain ⟨a1, c1, rfl⟩ := k5'.va
  obtain ⟨a2, c2, rfl⟩ := k5.va
  generalize hB3 : w3.heap.size = B3 at *
  have HB3 : Hid (w3.heap.size = B3) := hB3
  clear hB3
  have d0 : w5.cell? ⟨w.heap.size, 0, none⟩ = some (.slice a1 l.length c1) := by rw [k5'.row.cell (i := 0) (by decide), ← k5'.f0]
  have e0 : w5.cell? ⟨B3, 0, none⟩ = some (.slice a2 l.length c2) := by rw [k5.row.cell (i := 0) (by decide), ← k5.f0]
  have K5 : Hid (Tk w5 B3 62 6 0 f5 0 mo l (hcl c ws l) (.slice a2 l.length c2) vh2 false) := k5
  have K5' : Hid (Tk w5 w.heap.size 62 6 0 f3 0 mo l (hcl c ws l) (.slice a1 l.length c1) vh false) := k5'
  have I5 : Hid (It w5 b g ca (ca + 1) c x sw ws S) := i5
  clear k5 k5' i5
  go_upto_region 8 with fail
  go_quiet (fail)
  obtain ⟨w6, hw6⟩ : ∃ w6, w6 = w5.drewN nq := ⟨_, rfl⟩
  rw [← hw6]
  have b6 : Below w5.heap.size w5 w6 := by rw [hw6]; exact below_drewN (Below.refl _ _) _
  clear hw6 d0 e0
  go_wp2
  go_loopw [13] (fun v wr => ∃ i : Nat, i ≤ l.length ∧ v = .int .i64 i ∧ Below w5.heap.size w5 wr) (fun v _ => l.length - (intOf v).toNat)
  case atStart => exact ⟨0, Nat.zero_le _, rfl, b6⟩
  case round =>
    obtain ⟨i, hi, rfl, bl⟩ := hrel
    have kr := K5.out.below bl
    have kr' := K5'.out.below bl
    have d0 : wr.cell? ⟨w.heap.size, 0, none⟩ = some (.slice a1 l.length c1) := by rw [kr'.row.cell (i := 0) (by decide), ← kr'.f0]
    have e0 : wr.cell? ⟨B3, 0, none⟩ = some (.slice a2 l.length c2) := by rw [kr.row.cell (i := 0) (by decide), ← kr.f0]
    by_cases hlt : i < l.length
    · obtain ⟨y, hy⟩ : ∃ y, l[i]? = some y := ⟨_, List.getElem?_eq_getElem hlt⟩
      obtain ⟨g1, q1, q2, y1⟩ := kr'.nums.at_ i y hy
      obtain ⟨g2, q3, q4, y2⟩ := kr.nums.at_ i y hy
      simp only [Value.slice.injEq, true_and] at q2 q4
      obtain ⟨rfl, rfl⟩ := q2
      obtain ⟨rfl, rfl⟩ := q4
      obtain ⟨h1, m1, u1, x1⟩ := kr'.heads.at_ i y hy
      obtain ⟨h2, m2, u2, x2⟩ := kr.heads.at_ i y hy
      have d1 : wr.cell? ⟨w.heap.size, 1, none⟩ = some (.slice (some ⟨h1, 0, none⟩) l.length m1) := by rw [kr'.row.cell (i := 1) (by decide), ← u1, ← kr'.f1]
      have e1 : wr.cell? ⟨B3, 1, none⟩ = some (.slice (some ⟨h2, 0, none⟩) l.length m2) := by rw [kr.row.cell (i := 1) (by decide), ← u2, ← kr.f1]
      clear kr kr' hy u1 u2
      generalize wat c ws (y + 1) = sr, kdOf (wat c ws y) = K, ptOf (wat c ws y) = P, rwOf (wat c ws y) = R, agOf (wat c ws y) = A, stOf (wat c ws y) = T, hdOf (wat c ws y) = H at x1 x2
      have n0 : wr.cell? ⟨h1, i * 7, none⟩ = some (.int .u64 sr) := x1 0 (by decide)
      have n1 : wr.cell? ⟨h1, i * 7 + 1, none⟩ = some (.int .i64 K) := x1 1 (by decide)
      have n2 : wr.cell? ⟨h1, i * 7 + 2, none⟩ = some (.int .i64 P) := x1 2 (by decide)
      have n3 : wr.cell? ⟨h1, i * 7 + 3, none⟩ = some (.int .i64 R) := x1 3 (by decide)
      have n4 : wr.cell? ⟨h1, i * 7 + 4, none⟩ = some (.int .i64 A) := x1 4 (by decide)
      have n5 : wr.cell? ⟨h1, i * 7 + 5, none⟩ = some (.int .i64 T) := x1 5 (by decide)
      have n6 : wr.cell? ⟨h1, i * 7 + 6, none⟩ = some (.bool H) := x1 6 (by decide)
      have o0 : wr.cell? ⟨h2, i * 7, none⟩ = some (.int .u64 sr) := x2 0 (by decide)
      have o1 : wr.cell? ⟨h2, i * 7 + 1, none⟩ = some (.int .i64 K) := x2 1 (by decide)
      have o2 : wr.cell? ⟨h2, i * 7 + 2, none⟩ = some (.int .i64 P) := x2 2 (by decide)
      have o3 : wr.cell? ⟨h2, i * 7 + 3, none⟩ = some (.int .i64 R) := x2 3 (by decide)
      have o4 : wr.cell? ⟨h2, i * 7 + 4, none⟩ = some (.int .i64 A) := x2 4 (by decide)
      have o5 : wr.cell? ⟨h2, i * 7 + 5, none⟩ = some (.int .i64 T) := x2 5 (by decide)
      have o6 : wr.cell? ⟨h2, i * 7 + 6, none⟩ = some (.bool H) := x2 6 (by decide)
      clear x1 x2
      have hli : (i : Int) < (l.length : Int) := by omega
      go_upto_region 13 with fail
      refine quiet_tail 30 mixed (by kernel_rfl) ?_
      simp only [List.take_succ_cons, List.take_zero, List.drop_succ_cons, List.drop_zero]
      repeat (go_big_quiet_step (fail))
      refine wpQuiet_nil ?_
      clear n0 n1 n2 n3 n4 n5 n6 o0 o1 o2 o3 o4 o5 o6
      go_wp2_with fail
      refine (sameHead_same sr K P R A T H _).mono ?_
      rintro r w7 ⟨rfl, b7⟩
      have b8 : Below w5.heap.size w5 w7 := bl.trans (Below.trans (below_drewN (Below.refl _ wr) 1) (b7.mono bl.size))
      clear b7 bl
      go_wp2
      go_roundw
      case rel => exact ⟨i + 1, hlt, by go_num, b8⟩
      case measure => simp [intOf]; omega
    · obtain rfl : i = l.length := by omega
      have BW3 : Hid (Below w.heap.size w w5) := BW.out.trans (((T3.out.below (B := w.heap.size) HS.out.2 (fun q hq => by simp at hq; omega))).trans (hb25.out.mono (by have := HB3.out; omega)))
      have i8 := (I5.out.below bl).below (Below.alloc (Below.refl _ _) (Nat.le_refl _) (.cells (wnc (itv ca (ca + 1)) mo) 100))
      have k8 := Tk.newW wr (itv ca (ca + 1)) mo
      have kr8 := kr.below (Below.alloc (Below.refl _ _) (Nat.le_refl _) (.cells (wnc (itv ca (ca + 1)) mo) 100))
      have kr8' := kr'.below (Below.alloc (Below.refl _ _) (Nat.le_refl _) (.cells (wnc (itv ca (ca + 1)) mo) 100))
      have hwr5 : w5.heap.size ≤ wr.heap.size := bl.size
      have hs5 : B3 ≤ w5.heap.size := by have := hb25.out.size; have := HB3.out; omega
      have hB3l := K5.out.row.lt
      have b8 := Below.alloc (bl.mono (Nat.le_refl _)) bl.size (.cells (wnc (itv ca (ca + 1)) mo) 100)
      have hww := walk_within b g ca (ca + 1) c x sw ws S l p e hp hwk _ i8 wr.heap.size (wnf (itv ca (ca + 1)) mo) mo hl hl2 k8 (HO.out _ (by omega) (by omega) (by omega)) rfl rfl rfl rfl rfl rfl rfl
      have hfa := kr.footLt
      have hfa' := kr'.footLt
      have KR : Hid (Tk (wr.alloc (.cells (wnc (itv ca (ca + 1)) mo) 100)) B3 62 6 0 f5 0 mo l (hcl c ws l) (.slice a2 l.length c2) vh2 false) := kr8
      have KR' : Hid (Tk (wr.alloc (.cells (wnc (itv ca (ca + 1)) mo) 100)) w.heap.size 62 6 0 f3 0 mo l (hcl c ws l) (.slice a1 l.length c1) vh false) := kr8'
      have HF : Hid ((∀ q, q ∈ Tk.foot B3 (.slice a2 l.length c2) vh2 → q < wr.heap.size) ∧ (∀ q, q ∈ Tk.foot w.heap.size (.slice a1 l.length c1) vh → q < wr.heap.size)) := ⟨hfa, hfa'⟩
      clear i8 k8 kr8 kr8' kr kr' hfa hfa' e0
      go_upto_region 16 with fail
      clear d0 bl
      generalize (wr.alloc (.cells (wnc (itv ca (ca + 1)) mo) 100)) = w8 at *
      go_wp2_with fail
      refine hww.mono ?_
      rintro r w9 ⟨rfl, t9, hcase⟩
      clear hww
      have k9 : Tk w9 B3 62 6 0 f5 0 mo l (hcl c ws l) (.slice a2 l.length c2) vh2 false := KR.out.keep (fun q hq => t9.block q (KR.out.footLt q hq) (by simp; have := HF.out.1 q hq; omega))
      have k9' : Tk w9 w.heap.size 62 6 0 f3 0 mo l (hcl c ws l) (.slice a1 l.length c1) vh false := KR'.out.keep (fun q hq => t9.block q (KR'.out.footLt q hq) (by simp; have := HF.out.2 q hq; omega))
      have b9 : Below w5.heap.size w5 w9 := b8.trans (t9.below b8.size (fun q hq => by simp at hq; omega))
      have d5 : w9.cell? ⟨w.heap.size, 5, none⟩ = some (.bool false) := by rw [k9'.row.cell (i := 5) (by decide), ← k9'.f5]
      have e5 : w9.cell? ⟨B3, 5, none⟩ = some (.bool false) := by rw [k9.row.cell (i := 5) (by decide), ← k9.f5]
      have hsame : Calls Tryd.prog 50 #[.pointer (some ⟨wr.heap.size, 0, none⟩), .pointer (some ⟨w.heap.size, 0, none⟩)] w9 fun e w' => e = .returned (.bool true) ∧ Below w9.heap.size w9 w' := by
        have c0 : w9.cell? ⟨w.heap.size, 0, none⟩ = some (.slice a1 l.length c1) := by rw [k9'.row.cell (i := 0) (by decide), ← k9'.f0]
        rcases hcase with ⟨rfl, kk⟩ | ⟨-, f, va, vh, va2, vh2, kk, kk7⟩
        · exact same_any wr.heap.size w.heap.size 0 nilS nilS _ [] (by simp) w9 (by rw [kk.row.cell (i := 1) (by decide)]; rfl) (by rw [kk.row.cell (i := 7) (by decide)]; rfl) c0 kk.nums ⟨⟨none, 0, rfl⟩, fun i y h => by simp at h⟩ k9'.nums
        · exact same_any wr.heap.size w.heap.size 0 va va2 _ l hl2 w9 (by rw [kk.row.cell (i := 1) (by decide), ← kk.f0]) (by rw [kk7.row.cell (i := 7) (by decide), ← kk7.f0]) c0 kk.nums kk7.nums k9'.nums
      have K9 : Hid (Tk w9 w.heap.size 62 6 0 f3 0 mo l (hcl c ws l) (.slice a1 l.length c1) vh false) := k9'
      clear k9 k9' hcase t9 KR KR' HF b8
      go_wp2_with fail
      refine hsame.mono ?_
      rintro r w10 ⟨rfl, b10⟩
      have k10 : Hid (Tk w10 w.heap.size 62 6 0 f3 0 mo l (hcl c ws l) (.slice a1 l.length c1) vh false) := K9.out.below b10
      have b11 : Hid (Below w.heap.size w w10) := BW3.out.trans ((b9.trans (b10.mono b9.size)).mono BW3.out.size)
      clear hsame d5 e5 b9 b10
      go_wp2
      go_ret2
      exact ⟨_, _, _, _, rfl, k10.out, b11.out⟩

end Go.Proofs.YtbdkcelggffneaaDoor
