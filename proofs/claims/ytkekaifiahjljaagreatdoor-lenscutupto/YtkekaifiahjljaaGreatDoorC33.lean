import Derived.Test.YtkekaifiahjljaaGreatDoorC24
import Derived.Test.YtkekaifiahjljaaGreatDoorC22
import Derived.Test.YtkekaifiahjljaaGreatDoorC14
import Derived.Test.YtkekaifiahjljaaGreatDoorC32
set_option linter.unusedVariables false
set_option maxHeartbeats 8000000
set_option maxRecDepth 20000
namespace Go.Proofs.YtkekaifiahjljaaGreatDoor
open Go.RowKit Go.Shelf Go.Proofs.YtkekaifiahjljaaGreatDoor.Lt
theorem infoEP : (Tryz.prog.info? 156).map (fun i => (i.zero, i.size, i.bytes)) = some (some (.agg #[.int .i64 0, .int .i64 0, .int .i64 0]), 3, 24) := by kernel_rfl
theorem infoEL : (Tryz.prog.info? 101).map (fun i => (i.zero, i.size, i.bytes)) = some (some (.slice none 0 0), 1, 24) := by kernel_rfl
abbrev Ep := Nat × Nat × Nat
def epl (xs : List Ep) : List Value := xs.flatMap (fun e => [.int .i64 (e.1 : Nat), .int .i64 (e.2.1 : Nat), .int .i64 (e.2.2 : Nat)])
abbrev epc (e : Ep) : Array Value := #[.int .i64 (e.1 : Nat), .int .i64 (e.2.1 : Nat), .int .i64 (e.2.2 : Nat)]
theorem epl_snoc (xs : List Ep) (e : Ep) : epl (xs ++ [e]) = epl xs ++ (epc e).toList := by
  unfold epl
  rw [List.flatMap_append]
  rfl
theorem epl_at : ∀ (xs : List Ep) (i : Nat) e, xs[i]? = some e → (epl xs)[i * 3]? = some (.int .i64 (e.1 : Nat)) ∧ (epl xs)[i * 3 + 1]? = some (.int .i64 (e.2.1 : Nat)) ∧ (epl xs)[i * 3 + 2]? = some (.int .i64 (e.2.2 : Nat))
  | [], i, e, h => by simp at h
  | x :: r, 0, e, h => by
    cases h
    exact ⟨rfl, rfl, rfl⟩
  | x :: r, i + 1, e, h => by
    obtain ⟨h1, h2, h3⟩ := epl_at r i e (by simpa using h)
    have key : ∀ j, (epl (x :: r))[(i + 1) * 3 + j]? = (epl r)[i * 3 + j]? := fun j => by
      have e1 : (i + 1) * 3 + j = (i * 3 + j) + 3 := by omega
      rw [e1]
      rfl
    exact ⟨(key 0).trans h1, (key 1).trans h2, (key 2).trans h3⟩
def Eo (w : World) (base : Nat) (v : Value) (xs : List Ep) : Prop := w.ownsRow base 156 3 v xs.length (epl xs)
theorem Eo.at_ {w : World} {base : Nat} {v : Value} {xs : List Ep} (h : Eo w base v xs) : ∃ a cap, v = .slice a xs.length cap ∧ ∀ (i : Nat) e, xs[i]? = some e → ∃ q, a = some ⟨q, 0, none⟩ ∧ base ≤ q ∧ q < w.heap.size ∧ w.cell? ⟨q, i * 3, none⟩ = some (.int .i64 (e.1 : Nat)) ∧ w.cell? ⟨q, i * 3 + 1, none⟩ = some (.int .i64 (e.2.1 : Nat)) ∧ w.cell? ⟨q, i * 3 + 2, none⟩ = some (.int .i64 (e.2.2 : Nat)) := by
  rcases h.2 with ⟨rfl, h1⟩ | ⟨b, cap, cur, rfl, hb, hg, hn, hm, hs, ht⟩
  · have hn := h1
    exact ⟨none, 0, by rw [h1], fun i e he => by have := (List.getElem?_eq_some_iff.1 he).1; omega⟩
  · refine ⟨_, cap, rfl, fun i e he => ?_⟩
    have hi := (List.getElem?_eq_some_iff.1 he).1
    obtain ⟨h1, h2, h3⟩ := epl_at xs i e he
    have key : ∀ j, j < 3 → w.cell? ⟨b, i * 3 + j, none⟩ = (epl xs)[i * 3 + j]? := fun j hj => by
      rw [Kg.heap_cell hg, ← ht, List.getElem?_take, if_pos (by omega), Array.getElem?_toList]
    exact ⟨b, rfl, hb, Kg.heap_lt hg, (key 0 (by omega)).trans h1, (key 1 (by omega)).trans h2, (key 2 (by omega)).trans h3⟩
theorem Eo.keep {w w' : World} {base : Nat} {v : Value} {xs : List Ep} {G : List Nat} (h : Eo w base v xs) (ht : Kg.Touch G w w') (ha : ∀ k, v.ownBlock = some k → k ∉ G) : Eo w' base v xs := Kg.row_keep2 h ht ha
theorem Eo.snoc {w w8 : World} {base : Nat} {v v8 : Value} {xs : List Ep} {e : Ep} (h : Eo w base v xs) (h8 : w8.ownsRow base 156 3 v8 (xs.length + 1) (epl xs ++ (epc e).toList)) (g8 : (w.alloc (.cells (epc e) 156)).grownBy w8 v.ownBlock) (e8 : v8.ownBlock = v.ownBlock ∨ v8.ownBlock = some (w.alloc (.cells (epc e) 156)).heap.size) :
    Eo w8 base v8 (xs ++ [e]) ∧ Kg.Touch v.ownBlock.toList w w8 ∧ (∀ k, v8.ownBlock = some k → v.ownBlock = some k ∨ w.heap.size ≤ k) := by
  refine ⟨?_, (Kg.Touch.alloc _ w _).trans (Kg.Touch.grown g8 (fun k hk => by rw [Option.mem_toList]; exact hk.symm ▸ rfl)), fun k hk => ?_⟩
  · unfold Eo
    rw [epl_snoc, List.length_append]
    exact h8
  · rcases e8 with h1 | h1
    · exact .inl (by rw [← h1]; exact hk)
    · rw [h1] at hk
      cases hk
      exact .inr (by simp)
structure Le (w : World) (B R p : Nat) (vs : Nat → Value) (L : Nat → List Ep) : Prop where
  h : ∃ cs, w.heap[R]? = some (.cells cs 101 (0, 0)) ∧ cs.size = p ∧ ∀ i, i < p → cs[i]? = some (vs i)
  l : ∀ i, i < p → Eo w B (vs i) (L i)
  d : ∀ i j k, i < p → j < p → (vs i).ownBlock = some k → (vs j).ownBlock = some k → i = j
  lo : B ≤ R
variable {w w' : World} {B R p : Nat} {vs : Nat → Value} {L : Nat → List Ep}
theorem Le.lt (h : Le w B R p vs L) : R < w.heap.size := by
  obtain ⟨cs, h1, -⟩ := h.h
  exact Kg.heap_lt h1
theorem Le.ne (h : Le w B R p vs L) {i : Nat} (hi : i < p) : (vs i).ownBlock ≠ some R := fun e => by
  obtain ⟨cs, h1, -⟩ := h.h
  exact row_ne2 h1 (h.l i hi) (by decide) e.symm
theorem Le.mem (h : Le w B R p vs L) : ∀ k, k ∈ llF R p vs → B ≤ k ∧ k < w.heap.size := fun k hk => by
  rcases mem_llF.1 hk with rfl | ⟨i, hi, h1⟩
  · exact ⟨h.lo, h.lt⟩
  · exact World.ownsRow.lt (h.l i hi) k h1
theorem Le.cell (h : Le w B R p vs L) {i : Nat} (hi : i < p) : w.cell? ⟨R, i, none⟩ = some (vs i) := by
  obtain ⟨cs, h1, -, h2⟩ := h.h
  exact (Kg.heap_cell h1 i).trans (h2 i hi)
theorem Le.keep (h : Le w B R p vs L) {G : List Nat} (ht : Kg.Touch G w w') (hG : ∀ k, k ∈ llF R p vs → k ∉ G) : Le w' B R p vs L := by
  obtain ⟨cs, h1, h2, h3⟩ := h.h
  exact ⟨⟨cs, (ht.block _ (Kg.heap_lt h1) (hG R (mem_llF.2 (.inl rfl)))).trans h1, h2, h3⟩, fun i hi => Kg.row_keep2 (h.l i hi) ht (fun k hk => hG k (mem_llF.2 (.inr ⟨i, hi, hk⟩))), h.d, h.lo⟩
theorem Le.put (h : Le w B R p vs L) {i : Nat} (hi : i < p) {w8 : World} {v8 : Value} {l8 : List Ep} (ht : Kg.Touch (vs i).ownBlock.toList w w8) (ho : Eo w8 B v8 l8) (hn : ∀ k, v8.ownBlock = some k → (vs i).ownBlock = some k ∨ w.heap.size ≤ k) :
    Hid (Le (w8.setCell ⟨R, i, none⟩ v8) B R p (fun j => if j = i then v8 else vs j) (fun j => if j = i then l8 else L j) ∧ Kg.Touch (llF R p vs) w (w8.setCell ⟨R, i, none⟩ v8) ∧ Kg.Newer w.heap.size (llF R p vs) (llF R p (fun j => if j = i then v8 else vs j))) ∧ w8.cell? ⟨R, i, none⟩ = some (vs i) ∧ w8.frozen? ⟨R, i, none⟩ = false := by
  obtain ⟨cs, h1, h2, h3⟩ := h.h
  have hR : R ∉ (vs i).ownBlock.toList := fun hm => by rw [Option.mem_toList] at hm; exact h.ne hi hm
  have h8 := (ht.block _ (Kg.heap_lt h1) hR).trans h1
  have hR8 : v8.ownBlock ≠ some R := fun e => row_ne2 h8 ho (by decide) e.symm
  have tS : Kg.Touch [R] w8 (w8.setCell ⟨R, i, none⟩ v8) := Kg.Touch.setCell _ _ _ (by simp)
  refine ⟨⟨⟨⟨cs.setIfInBounds i v8, Kg.heap_set h8 i v8, by simpa using h2, fun j hj => ?_⟩, fun j hj => ?_, fun a b k ha hb h4 h5 => ?_, h.lo⟩, ?_, fun k hk => ?_⟩, (Kg.heap_cell h8 i).trans (h3 i hi), Kg.heap_frozen h8 i⟩
  · rw [Array.getElem?_setIfInBounds]
    by_cases e : i = j
    · subst e
      rw [if_pos rfl, if_pos (by omega), if_pos rfl]
    · rw [if_neg e, if_neg (fun h => e h.symm)]
      exact h3 j hj
  · by_cases e : j = i
    · rw [if_pos e, if_pos e]
      exact Kg.row_keep2 ho tS (fun k hk => by simp only [List.mem_singleton]; exact fun e => hR8 (by rw [hk, e]))
    · rw [if_neg e, if_neg e]
      have h6 := Kg.row_keep2 (h.l j hj) ht (fun k hk hm => by rw [Option.mem_toList] at hm; exact e (h.d j i k hj hi hk hm))
      exact Kg.row_keep2 h6 tS (fun k hk => by simp only [List.mem_singleton]; exact fun e => h.ne hj (by rw [hk, e]))
  · by_cases ea : a = i
    · by_cases eb : b = i
      · rw [ea, eb]
      · rw [if_pos ea] at h4
        rw [if_neg eb] at h5
        rcases hn k h4 with h6 | h6
        · exact absurd (h.d b i k hb hi h5 h6) eb
        · have := (World.ownsRow.lt (h.l b hb) k h5).2
          omega
    · rw [if_neg ea] at h4
      by_cases eb : b = i
      · rw [if_pos eb] at h5
        rcases hn k h5 with h6 | h6
        · exact absurd (h.d a i k ha hi h4 h6) ea
        · have := (World.ownsRow.lt (h.l a ha) k h4).2
          omega
      · rw [if_neg eb] at h5
        exact h.d a b k ha hb h4 h5
  · exact (ht.mono (fun k hk => .inl (mem_llF.2 (.inr ⟨i, hi, by rw [Option.mem_toList] at hk; exact hk⟩)))).trans (tS.mono (fun k hk => .inl (mem_llF.2 (.inl (by simpa using hk)))))
  · rcases mem_llF.1 hk with h4 | ⟨j, hj, h4⟩
    · exact .inl (mem_llF.2 (.inl h4))
    · by_cases e : j = i
      · rw [if_pos e] at h4
        rcases hn k h4 with h6 | h6
        · exact .inl (mem_llF.2 (.inr ⟨i, hi, h6⟩))
        · exact .inr h6
      · rw [if_neg e] at h4
        exact .inl (mem_llF.2 (.inr ⟨j, hj, h4⟩))
theorem make_ephs17 (m : Nat) (hm : m ≤ 1000000000001) : ∀ w, (Instr.makeSlice 151 (.int .i64 (m : Int)) (.int .i64 (m : Int))).run Tryz.prog w = .ok (.slice (some ⟨w.heap.size, 0, none⟩) m m) (w.alloc (.cells (madeCells #[.slice none 0 0] m) 101)) := fun w => by
  obtain ⟨i0, hi0, hz0, hz1, hz2⟩ := info_p17 infoEL
  have := run_make (P := Tryz.prog) w 151 101 i0 (.slice none 0 0) Tryz.underlying151 hi0 hz0 .i64 .i64 m m (by omega) (Int.le_refl _) (by rw [hz2]; omega) (by omega)
  rw [hz1, Nat.mul_one] at this
  exact this
theorem Le.new (w : World) (p : Nat) : Le (w.alloc (.cells (madeCells #[.slice none 0 0] p) 101)) w.heap.size w.heap.size p (fun _ => .slice none 0 0) (fun _ => []) :=
  ⟨⟨_, heap_alloc_new w _, by simp [madeCells], fun x hx => by simp [madeCells, hx, Nat.mod_one]⟩, fun i hi => World.ownsRow_nil _ _ _ _, fun i j k _ _ h => by simp [Value.ownBlock] at h, Nat.le_refl _⟩
structure Wb (w : World) (B wb R m : Nat) (vw vp : Value) (vs : Nat → Value) (P : List Ep) (L : Nat → List Ep) : Prop where
  h : w.heap[wb]? = some (.cells #[vw, vp, .slice (some ⟨R, 0, none⟩) m m] 153 (0, 0))
  p : Eo w B vp P
  l : Le w B R m vs L
  pl : ∀ k, vp.ownBlock = some k → k ∉ llF R m vs
  lo : B ≤ wb
abbrev epv (e : Ep) : Value := .agg #[.int .i64 (e.1 : Nat), .int .i64 (e.2.1 : Nat), .int .i64 (e.2.2 : Nat)]
theorem cell_alloc_epc (w : World) (e : Ep) (t : TypeId) : (w.alloc (.cells (epc e) t)).cell? ⟨w.heap.size, 0, none⟩ = some (.int .i64 (e.1 : Nat)) ∧ (w.alloc (.cells (epc e) t)).cell? ⟨w.heap.size, 1, none⟩ = some (.int .i64 (e.2.1 : Nat)) ∧ (w.alloc (.cells (epc e) t)).cell? ⟨w.heap.size, 2, none⟩ = some (.int .i64 (e.2.2 : Nat)) := by
  have h := heap_alloc_new w (.cells (epc e) t)
  exact ⟨Kg.heap_cell h 0, Kg.heap_cell h 1, Kg.heap_cell h 2⟩
theorem holds_any (m : Nat) (e : Ep) (w : World) (bb : Nat) (f : Nat → Int) (hb : Fy w bb m f) (hi : e.1 < m) (hk : e.2.1 < m) :
    Calls Tryz.prog 118 #[epv e, .slice (some ⟨bb, 0, none⟩) m m] w fun r w' => r = .returned (.bool (f e.1 != -1 && f e.2.1 != -1)) ∧ w' = w.alloc (.cells (epc e) 156) := by
  obtain ⟨i, k, v⟩ := e
  dsimp only at hi hk
  go_enter Tryz.func118, Tryz.ntmps118
  go_upto_region 1 with fail
  obtain ⟨c0, c1, -⟩ := cell_alloc_epc w (i, k, v) 156
  have hb1 := hb.touch (Kg.Touch.alloc [] w (.cells (epc (i, k, v)) 156)) (List.not_mem_nil)
  have f1 := hb1.cell hi
  have f2 := hb1.cell hk
  dsimp only [epc] at c0 c1 hb1 f1 f2
  clear hb
  by_cases h1 : f i = -1
  · have g1 : (f i != -1) = false := by rw [h1]; rfl
    clear f2
    go_wp2
    go_ret
    exact ⟨by simp only [g1, Bool.false_and]; rfl, rfl⟩
  · have g1 : (f i != -1) = true := bne_iff_ne.2 h1
    go_wp2
    go_ret
    exact ⟨by simp only [g1, Bool.true_and]; rfl, rfl⟩
abbrev hold (f : Nat → Int) (e : Ep) : Bool := f e.1 != -1 && f e.2.1 != -1
theorem take_filter_snoc {P : List Ep} {p : Ep → Bool} {k : Nat} {e : Ep} (h : P[k]? = some e) : (P.take (k + 1)).filter p = (P.take k).filter p ++ (if p e = true then [e] else []) := by
  rw [List.take_add_one, h, List.filter_append]
  by_cases hp : p e = true <;> simp [hp]
theorem holding_any (B wb R m : Nat) (vw vp : Value) (vs : Nat → Value) (P : List Ep) (L : Nat → List Ep) (w : World) (hw : Wb w B wb R m vw vp vs P L) (bb : Nat) (f : Nat → Int) (hb : Fy w bb m f) (hP : ∀ e, e ∈ P → e.1 < m ∧ e.2.1 < m) (hl : P.length ≤ 2000000) :
    Calls Tryz.prog 69 #[.pointer (some ⟨wb, 0, none⟩), .slice (some ⟨bb, 0, none⟩) m m] w fun r w' => ∃ v, r = .returned v ∧ Eo w' w.heap.size v (P.filter (hold f)) ∧ Below w.heap.size w w' := by
  obtain ⟨pa, pc, rfl, hp⟩ := hw.p.at_
  have c1 : w.cell? ⟨wb, 1, none⟩ = some (.slice pa P.length pc) := Kg.heap_cell hw.h 1
  have HC : Hid (∀ wr, Below w.heap.size w wr → ∀ (i : Nat) e, P[i]? = some e → ∃ q, pa = some ⟨q, 0, none⟩ ∧ wr.cell? ⟨q, i * 3, none⟩ = some (.int .i64 (e.1 : Nat)) ∧ wr.cell? ⟨q, i * 3 + 1, none⟩ = some (.int .i64 (e.2.1 : Nat)) ∧ wr.cell? ⟨q, i * 3 + 2, none⟩ = some (.int .i64 (e.2.2 : Nat))) := fun wr b i e he => by
    obtain ⟨q, h1, -, h2, h3, h4, h5⟩ := hp i e he
    exact ⟨q, h1, (Below.cell (p := ⟨q, i * 3, none⟩) b h2).trans h3, (Below.cell (p := ⟨q, i * 3 + 1, none⟩) b h2).trans h4, (Below.cell (p := ⟨q, i * 3 + 2, none⟩) b h2).trans h5⟩
  have HF : Hid (∀ wr, Below w.heap.size w wr → Fy wr bb m f) := fun wr b => hb.touch (Kg.Touch.of_below b []) (List.not_mem_nil)
  have HPm : Hid (∀ e, e ∈ P → e.1 < m ∧ e.2.1 < m) := hP
  clear hw hb hP hp
  obtain ⟨i0, hi0, hj0, hj1, hj2⟩ := info_p17 infoEP
  have HI : Hid (Tryz.prog.info? 156 = some i0 ∧ i0.zero = some (.agg #[.int .i64 0, .int .i64 0, .int .i64 0]) ∧ i0.size = 3 ∧ i0.bytes = 24) := ⟨hi0, hj0, hj1, hj2⟩
  clear hi0 hj0 hj1 hj2
  go_enter Tryz.func69, Tryz.ntmps69
  go_wp2
  go_loopw [5, 7, 13] (fun v5 _ v13 wr => ∃ k : Nat, v13 = .int .i64 (k : Nat) ∧ k ≤ P.length ∧ ∃ (a : Option Addr) (c n : Nat), v5 = .slice a n c ∧ Hid (n = ((P.take k).filter (hold f)).length) ∧ Hid (Eo wr w.heap.size (.slice a n c) ((P.take k).filter (hold f))) ∧ Hid (Below w.heap.size w wr)) (fun _ _ v13 _ => P.length - (intOf v13).toNat)
  case atStart => exact ⟨0, rfl, Nat.zero_le _, none, 0, 0, rfl, rfl, World.ownsRow_nil _ _ _ _, Below.refl _ _⟩
  case round =>
    obtain ⟨k, rfl, hk, a5, c5, n5, rfl, R0, R1, R2⟩ := hrel
    clear c1
    by_cases hkl : k < P.length
    · have hki : (k : Int) < (P.length : Int) := by omega
      have hz : P[k]? = some (P[k]'hkl) := List.getElem?_eq_getElem hkl
      generalize P[k]'hkl = e at hz
      obtain ⟨q, rfl, d0, d1, d2⟩ := HC.out wr R2.out k e hz
      obtain ⟨hm1, hm2⟩ := HPm.out e (List.mem_of_getElem? hz)
      have HS : Hid ((P.take (k + 1)).filter (hold f) = (P.take k).filter (hold f) ++ (if hold f e = true then [e] else [])) := take_filter_snoc hz
      go_upto_region 5 with fail
      obtain ⟨X, hX⟩ : ∃ X, X = wr.heap.size := ⟨_, rfl⟩
      have l5 : Below wr.heap.size wr (wr.alloc (.cells (epc e) 156)) := Below.alloc (Below.refl _ _) (Nat.le_refl _) _
      have B5 : Hid (Below w.heap.size w (wr.alloc (.cells (epc e) 156))) := R2.out.trans (l5.mono R2.out.size)
      have I5 : Hid (Eo (wr.alloc (.cells (epc e) 156)) w.heap.size (.slice a5 n5 c5) ((P.take k).filter (hold f))) := R1.out.keep (Kg.Touch.of_below l5 []) (fun _ _ => List.not_mem_nil)
      have H5 : Hid ((wr.alloc (.cells (epc e) 156)).heap[X]? = some (.cells (epc e) 156 (0, 0))) := by rw [hX]; exact heap_alloc_new wr _
      change Code.wp _ _ _ _ (wr.alloc (.cells (epc e) 156))
      rw [← hX]
      clear d0 d1 d2 l5 hX R1 R2 hz
      generalize wr.alloc (.cells (epc e) 156) = w5 at *
      have x0 : w5.cell? ⟨X, 0, none⟩ = some (.int .i64 (e.1 : Nat)) := Kg.heap_cell H5.out 0
      have x1 : w5.cell? ⟨X, 1, none⟩ = some (.int .i64 (e.2.1 : Nat)) := Kg.heap_cell H5.out 1
      have x2 : w5.cell? ⟨X, 2, none⟩ = some (.int .i64 (e.2.2 : Nat)) := Kg.heap_cell H5.out 2
      have hq := holds_any m e w5 bb f (HF.out w5 B5.out) hm1 hm2
      have HB5 : Hid (Below w5.heap.size w5 (w5.alloc (.cells (epc e) 156))) := Below.alloc (Below.refl _ _) (Nat.le_refl _) _
      go_wp2_with fail
      refine hq.mono ?_
      rintro r w6 ⟨rfl, rfl⟩
      have B6 : Hid (Below w.heap.size w (w5.alloc (.cells (epc e) 156))) := B5.out.trans (HB5.out.mono B5.out.size)
      have I6 : Hid (Eo (w5.alloc (.cells (epc e) 156)) w.heap.size (.slice a5 n5 c5) ((P.take k).filter (hold f))) := I5.out.keep (Kg.Touch.of_below HB5.out []) (fun _ _ => List.not_mem_nil)
      have H6 : Hid ((w5.alloc (.cells (epc e) 156)).heap[X]? = some (.cells (epc e) 156 (0, 0))) := (HB5.out.block X (Kg.heap_lt H5.out)).trans H5.out
      clear x0 x1 x2 hq HB5 H5 I5 B5
      generalize w5.alloc (.cells (epc e) 156) = w6 at *
      have x0 : w6.cell? ⟨X, 0, none⟩ = some (.int .i64 (e.1 : Nat)) := Kg.heap_cell H6.out 0
      have x1 : w6.cell? ⟨X, 1, none⟩ = some (.int .i64 (e.2.1 : Nat)) := Kg.heap_cell H6.out 1
      have x2 : w6.cell? ⟨X, 2, none⟩ = some (.int .i64 (e.2.2 : Nat)) := Kg.heap_cell H6.out 2
      by_cases hh : hold f e = true
      · have hh2 : (f e.1 != -1 && f e.2.1 != -1) = true := hh
        rw [hh2]
        have HS2 : Hid ((P.take (k + 1)).filter (hold f) = (P.take k).filter (hold f) ++ [e]) := by have h := HS.out; rw [if_pos hh] at h; exact h
        have hn5 : n5 ≤ 2000000 := by
          have h1 := R0.out
          have h2 := List.length_filter_le (hold f) (P.take k)
          have h3 := List.length_take_le k P
          omega
        have HRow : Hid ((w6.alloc (.cells (epc e) 156)).ownsRow w.heap.size 156 3 (.slice a5 n5 c5) n5 (epl ((P.take k).filter (hold f)))) := by
          have h9 := I6.out.keep (Kg.Touch.of_below (Below.alloc (Below.refl w6.heap.size w6) (Nat.le_refl _) (.cells (epc e) 156)) []) (fun _ _ => List.not_mem_nil)
          unfold Eo at h9
          rw [← R0.out] at h9
          exact h9
        clear HS hh hh2
        go_wp2_with (at_builtin; refine wpList_append_own_at _ rfl _ _ 101 rfl w.heap.size 156 i0 (.agg #[.int .i64 0, .int .i64 0, .int .i64 0]) 3 24 Tryz.underlying101 HI.out.1 HI.out.2.1 HI.out.2.2.1 HI.out.2.2.2 rfl (by decide) _ _ _ rfl HRow.out ⟨w6.heap.size, 0, none⟩ 1 1 (epc e).toList rfl rfl (cells_new17 _ _ _) (by simp [Value.oneCell']) (by simp only [maxLen]; omega) (by omega) (by have := B6.out.size; simp; omega) ?_; intro v8 w8 h8 g8 e8 d8)
        go_roundw
        case rel =>
          obtain ⟨a8, c8, rfl⟩ := own_sl17 h8
          obtain ⟨y1, y2, -⟩ := Eo.snoc (e := e) I6.out (by rw [← R0.out]; exact h8) g8 d8
          have y3 : Below w.heap.size w6 w8 := y2.below B6.out.size (fun z hz => by rw [Option.mem_toList] at hz; exact (World.ownsRow.lt I6.out z hz).1)
          refine ⟨k + 1, by go_num, by omega, a8, c8, n5 + 1, rfl, ?_, ?_, B6.out.trans y3⟩
          · show _ = _
            rw [HS2.out, List.length_append, ← R0.out]
            rfl
          · show Eo _ _ _ _
            rw [HS2.out]
            exact y1
        case measure => simp [intOf]; omega
      · have hh2 : (f e.1 != -1 && f e.2.1 != -1) = false := by simpa using hh
        rw [hh2]
        have HS2 : Hid ((P.take (k + 1)).filter (hold f) = (P.take k).filter (hold f)) := by have h := HS.out; rw [if_neg hh, List.append_nil] at h; exact h
        clear HS hh hh2
        go_wp2
        go_roundw
        case rel => exact ⟨k + 1, by go_num, by omega, a5, c5, n5, rfl, by show _ = _; rw [HS2.out]; exact R0.out, by show Eo _ _ _ _; rw [HS2.out]; exact I6.out, B6.out⟩
        case measure => simp [intOf]; omega
    · have hki : ¬ (k : Int) < (P.length : Int) := by omega
      have e9 : k = P.length := by omega
      subst e9
      have HE : Hid (Eo wr w.heap.size (.slice a5 n5 c5) (P.filter (hold f))) := by have h := R1.out; rw [List.take_length] at h; exact h
      clear R1
      go_wp2
      go_ret
      exact ⟨_, rfl, HE.out, R2.out⟩
end Go.Proofs.YtkekaifiahjljaaGreatDoor
