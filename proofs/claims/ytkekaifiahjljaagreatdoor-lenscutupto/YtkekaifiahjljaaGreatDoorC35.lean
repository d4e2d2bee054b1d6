import Derived.Test.YtkekaifiahjljaaGreatDoorC34
import Derived.Test.YtkekaifiahjljaaGreatDoorC30
import Derived.Test.YtkekaifiahjljaaGreatDoorC11
set_option linter.unusedVariables false
set_option maxHeartbeats 8000000
set_option maxRecDepth 20000
namespace Go.Proofs.YtkekaifiahjljaaGreatDoor
open Go.RowKit Go.Shelf Go.Proofs.YtkekaifiahjljaaGreatDoor.Lt
theorem lret1_any (x : Int) (w : World) : Calls Tryz.prog 68 #[.int .i64 x] w fun e w' => e = .returned (.bool false) ∧ w' = w := by
  go_enter Tryz.func68, Tryz.ntmps68
  go_wp2
  go_ret
  exact ⟨rfl, rfl⟩
theorem lret2_any (x n : Int) (p : Addr) (w : World) (hc : w.cell? p = some (.int .i64 n)) : Calls Tryz.prog 73 #[.int .i64 x, .pointer (some p)] w fun e w' => e = .returned (.bool (x == n)) ∧ w' = w := by
  go_enter Tryz.func73, Tryz.ntmps73
  go_wp2
  go_ret
  exact ⟨rfl, rfl⟩
theorem meet1_any (B Q c2 c3 c4 bb m N : Nat) (tq : TypeId) (f : Nat → Int) (x b : Nat) (xs : List Int) (F : List Nat) (w : World) (h2 : w.heap[c2]? = some (Obj.cells #[.slice (some ⟨bb, 0, none⟩) m m] 24 (0, 0))) (h3 : w.heap[c3]? = some (Obj.cells #[.func (.func 68) #[] #[]] 100 (0, 0))) (h4 : w.heap[c4]? = some (Obj.cells #[.pointer (some ⟨Q, 0, none⟩)] tq (0, 0))) (hq4 : tq ≠ 3) (hb : Fy w bb m f) (hq : Kg.Que w B Q 0 N xs F) (hbF : bb ∉ F) (hx : x < m) (hB : B ≤ w.heap.size) (hN : N < 8796093022208) :
    Calls Tryz.prog 117 #[.int .i64 (x : Nat), .int .i64 (b : Nat), .pointer (some ⟨c2, 0, none⟩), .pointer (some ⟨c3, 0, none⟩), .pointer (some ⟨c4, 0, none⟩)] w fun e w' => e = .returned (.tuple #[]) ∧ (((x = 0 ∨ f x ≠ -1) ∧ w' = w) ∨ (x ≠ 0 ∧ f x = -1 ∧ ∃ F', Fy w' bb m (fun y => if y = x then (b : Int) else f y) ∧ Kg.Que w' B Q 0 (N + 1) (xs ++ [(x : Int)]) F' ∧ Kg.Touch (bb :: F) w w' ∧ Kg.Newer w.heap.size F F')) := by
  have d2 : w.cell? ⟨c2, 0, none⟩ = some (.slice (some ⟨bb, 0, none⟩) m m) := Kg.heap_cell h2 0
  have d3 : w.cell? ⟨c3, 0, none⟩ = some (.func (.func 68) #[] #[]) := Kg.heap_cell h3 0
  have d4 : w.cell? ⟨c4, 0, none⟩ = some (.pointer (some ⟨Q, 0, none⟩)) := Kg.heap_cell h4 0
  have db := hb.cell hx
  have fb := hb.frozen x
  have ql := lret1_any (x : Int) w
  have wt : Kg.Touch [bb] w (w.setCell ⟨bb, x, none⟩ (.int .i64 (b : Nat))) := Kg.Touch.setCell _ _ _ (by simp)
  have HY : Hid (Fy (w.setCell ⟨bb, x, none⟩ (.int .i64 (b : Nat))) bb m (fun y => if y = x then (b : Int) else f y) ∧ Kg.Que (w.setCell ⟨bb, x, none⟩ (.int .i64 (b : Nat))) B Q 0 N xs F ∧ Kg.Touch [bb] w (w.setCell ⟨bb, x, none⟩ (.int .i64 (b : Nat)))) := ⟨hb.set hx b, hq.keep wt (fun y hy h => by rw [List.mem_singleton] at h; rw [h] at hy; exact hbF hy), wt⟩
  have HC : Hid ((w.setCell ⟨bb, x, none⟩ (.int .i64 (b : Nat))).cell? ⟨c4, 0, none⟩ = some (.pointer (some ⟨Q, 0, none⟩))) := by
    obtain ⟨cs, hcs, -⟩ := id hb.ex
    have hne : c4 ∉ [bb] := by simp only [List.mem_singleton]; exact block_ne h4 hcs hq4
    exact Kg.heap_cell ((wt.block _ (Kg.heap_lt h4) hne).trans h4) 0
  have HBF : Hid (bb ∉ F ∧ B ≤ w.heap.size ∧ N < 8796093022208) := ⟨hbF, hB, hN⟩
  clear hb hq h2 h3 h4 hbF hB hN wt
  go_enter Tryz.func117, Tryz.ntmps117
  by_cases h0 : x = 0
  · subst h0
    clear HY HC db fb ql
    go_wp2
    go_end0
    first | exact ⟨rfl, .inl ⟨.inl rfl, rfl⟩⟩ | exact ⟨rfl, .inl rfl⟩ | simp
  · have g0 : ((x : Int) != 0) = true := bne_iff_ne.2 (by omega)
    by_cases h1 : f x = -1
    · rw [h1] at db
      go_upto_region 1 with (go_at_call 68; refine ql.mono ?_; rintro e w1 ⟨rfl, rfl⟩)
      go_upto_region 2 with fail
      clear ql db fb d2 d3 d4
      generalize w1.setCell ⟨bb, x, none⟩ (.int .i64 (b : Nat)) = w5 at *
      have q := Kg.put_any Q B N 0 (x : Int) xs F w5 HY.out.2.1 (Nat.le_trans HBF.out.2.1 HY.out.2.2.size) HBF.out.2.2 (by omega)
      have d4 := HC.out
      go_wp2_with fail
      refine q.mono ?_
      rintro e w6 ⟨rfl, F', u1, u2, u3⟩
      have HR : Hid (∃ F', Fy w6 bb m (fun y => if y = x then (b : Int) else f y) ∧ Kg.Que w6 B Q 0 (N + 1) (xs ++ [(x : Int)]) F' ∧ Kg.Touch (bb :: F) w1 w6 ∧ Kg.Newer w1.heap.size F F') := ⟨F', HY.out.1.touch u2 HBF.out.1, u1, (HY.out.2.2.mono (fun k hk => .inl (by rw [List.mem_singleton.1 hk]; simp))).trans (u2.mono (fun k hk => .inl (List.mem_cons_of_mem _ hk))), fun y hy => (u3 y hy).imp id (fun h => Nat.le_trans HY.out.2.2.size h)⟩
      clear q u1 u2 u3 HY HC d4
      go_wp2
      go_end0
      exact ⟨rfl, .inr ⟨h0, h1, HR.out⟩⟩
    · have g1 : (f x == -1) = false := beq_eq_false_iff_ne.2 h1
      have HE : Hid (f x ≠ -1) := h1
      clear HY HC fb ql h1
      go_wp2
      go_end0
      exact ⟨rfl, .inl ⟨.inr HE.out, rfl⟩⟩
theorem meet2_any (pn : Addr) (n : Nat) (B Q c2 c3 c4 bb m N : Nat) (tq : TypeId) (f : Nat → Int) (x b : Nat) (xs : List Int) (F : List Nat) (w : World) (h2 : w.heap[c2]? = some (Obj.cells #[.slice (some ⟨bb, 0, none⟩) m m] 24 (0, 0))) (h3 : w.heap[c3]? = some (Obj.cells #[.func (.func 73) #[] #[.pointer (some pn)]] 100 (0, 0))) (h4 : w.heap[c4]? = some (Obj.cells #[.pointer (some ⟨Q, 0, none⟩)] tq (0, 0))) (hq4 : tq ≠ 3) (hb : Fy w bb m f) (hq : Kg.Que w B Q 0 N xs F) (hbF : bb ∉ F) (hx : x < m) (hB : B ≤ w.heap.size) (hN : N < 8796093022208) (hp : w.cell? pn = some (.int .i64 (n : Nat))) :
    Calls Tryz.prog 117 #[.int .i64 (x : Nat), .int .i64 (b : Nat), .pointer (some ⟨c2, 0, none⟩), .pointer (some ⟨c3, 0, none⟩), .pointer (some ⟨c4, 0, none⟩)] w fun e w' => e = .returned (.tuple #[]) ∧ (((x = 0 ∨ f x ≠ -1 ∨ x = n) ∧ w' = w) ∨ (x ≠ 0 ∧ f x = -1 ∧ x ≠ n ∧ ∃ F', Fy w' bb m (fun y => if y = x then (b : Int) else f y) ∧ Kg.Que w' B Q 0 (N + 1) (xs ++ [(x : Int)]) F' ∧ Kg.Touch (bb :: F) w w' ∧ Kg.Newer w.heap.size F F')) := by
  have d2 : w.cell? ⟨c2, 0, none⟩ = some (.slice (some ⟨bb, 0, none⟩) m m) := Kg.heap_cell h2 0
  have d3 : w.cell? ⟨c3, 0, none⟩ = some (.func (.func 73) #[] #[.pointer (some pn)]) := Kg.heap_cell h3 0
  have d4 : w.cell? ⟨c4, 0, none⟩ = some (.pointer (some ⟨Q, 0, none⟩)) := Kg.heap_cell h4 0
  have db := hb.cell hx
  have fb := hb.frozen x
  have ql := lret2_any (x : Int) (n : Nat) pn w hp
  have wt : Kg.Touch [bb] w (w.setCell ⟨bb, x, none⟩ (.int .i64 (b : Nat))) := Kg.Touch.setCell _ _ _ (by simp)
  have HY : Hid (Fy (w.setCell ⟨bb, x, none⟩ (.int .i64 (b : Nat))) bb m (fun y => if y = x then (b : Int) else f y) ∧ Kg.Que (w.setCell ⟨bb, x, none⟩ (.int .i64 (b : Nat))) B Q 0 N xs F ∧ Kg.Touch [bb] w (w.setCell ⟨bb, x, none⟩ (.int .i64 (b : Nat)))) := ⟨hb.set hx b, hq.keep wt (fun y hy h => by rw [List.mem_singleton] at h; rw [h] at hy; exact hbF hy), wt⟩
  have HC : Hid ((w.setCell ⟨bb, x, none⟩ (.int .i64 (b : Nat))).cell? ⟨c4, 0, none⟩ = some (.pointer (some ⟨Q, 0, none⟩))) := by
    obtain ⟨cs, hcs, -⟩ := id hb.ex
    have hne : c4 ∉ [bb] := by simp only [List.mem_singleton]; exact block_ne h4 hcs hq4
    exact Kg.heap_cell ((wt.block _ (Kg.heap_lt h4) hne).trans h4) 0
  have HBF : Hid (bb ∉ F ∧ B ≤ w.heap.size ∧ N < 8796093022208) := ⟨hbF, hB, hN⟩
  clear hb hq h2 h3 h4 hbF hB hN wt
  go_enter Tryz.func117, Tryz.ntmps117
  by_cases h0 : x = 0
  · subst h0
    clear HY HC db fb ql
    go_wp2
    go_end0
    first | exact ⟨rfl, .inl ⟨.inl rfl, rfl⟩⟩ | exact ⟨rfl, .inl rfl⟩ | simp
  · have g0 : ((x : Int) != 0) = true := bne_iff_ne.2 (by omega)
    by_cases h1 : f x = -1
    · rw [h1] at db
      by_cases hxn : x = n
      · have gx : ((x : Int) == (n : Int)) = true := by rw [hxn]; simp
        rw [gx] at ql
        have HXN : Hid (x = n) := hxn
        clear HY HC fb hp hxn
        go_wp2_with fail
        refine ql.mono ?_
        rintro e w1 ⟨rfl, rfl⟩
        go_wp2
        go_end0
        exact ⟨rfl, .inl ⟨.inr (.inr HXN.out), rfl⟩⟩
      · have gx : ((x : Int) == (n : Int)) = false := beq_eq_false_iff_ne.2 (by omega)
        rw [gx] at ql
        have HXN : Hid (x ≠ n) := hxn
        clear hp hxn
        go_upto_region 1 with (go_at_call 73; refine ql.mono ?_; rintro e w1 ⟨rfl, rfl⟩)
        go_upto_region 2 with fail
        clear ql db fb d2 d3 d4
        generalize w1.setCell ⟨bb, x, none⟩ (.int .i64 (b : Nat)) = w5 at *
        have q := Kg.put_any Q B N 0 (x : Int) xs F w5 HY.out.2.1 (Nat.le_trans HBF.out.2.1 HY.out.2.2.size) HBF.out.2.2 (by omega)
        have d4 := HC.out
        go_wp2_with fail
        refine q.mono ?_
        rintro e w6 ⟨rfl, F', u1, u2, u3⟩
        have HR : Hid (∃ F', Fy w6 bb m (fun y => if y = x then (b : Int) else f y) ∧ Kg.Que w6 B Q 0 (N + 1) (xs ++ [(x : Int)]) F' ∧ Kg.Touch (bb :: F) w1 w6 ∧ Kg.Newer w1.heap.size F F') := ⟨F', HY.out.1.touch u2 HBF.out.1, u1, (HY.out.2.2.mono (fun k hk => .inl (by rw [List.mem_singleton.1 hk]; simp))).trans (u2.mono (fun k hk => .inl (List.mem_cons_of_mem _ hk))), fun y hy => (u3 y hy).imp id (fun h => Nat.le_trans HY.out.2.2.size h)⟩
        clear q u1 u2 u3 HY HC d4
        go_wp2
        go_end0
        exact ⟨rfl, .inr ⟨h0, h1, HXN.out, HR.out⟩⟩
    · have g1 : (f x == -1) = false := beq_eq_false_iff_ne.2 h1
      have HE : Hid (f x ≠ -1) := h1
      clear HY HC fb ql h1
      go_wp2
      go_end0
      exact ⟨rfl, .inl ⟨.inr (.inl HE.out), rfl⟩⟩
end Go.Proofs.YtkekaifiahjljaaGreatDoor
namespace Go.Proofs.YtkekaifiahjljaaGreatDoor
open Go.RowKit Go.Shelf Go.Proofs.YtkekaifiahjljaaGreatDoor.Lt Go.Proofs.YtkekaifiahjljaaGreatDoor.Lp
theorem byv_add {seq : List Nat} {by' : Nat → Nat} {x b : Nat} : (fun y => if y = x then (b : Int) else byv seq by' y) = byv (seq ++ [x]) (fun y => if y = x then b else by' y) := by
  funext y
  unfold byv
  show (if y = x then (b : Int) else if y ∈ seq then (by' y : Int) else -1) = if y ∈ seq ++ [x] then (((if y = x then b else by' y) : Nat) : Int) else -1
  by_cases e : y = x
  · subst e
    rw [if_pos rfl, if_pos (by simp), if_pos rfl]
  · rw [if_neg e, if_neg e]
    by_cases h : y ∈ seq
    · rw [if_pos h, if_pos (List.mem_append_left _ h)]
    · rw [if_neg h, if_neg (fun k => (List.mem_append.1 k).elim h (fun k => e (List.mem_singleton.1 k)))]
theorem ry_hg {W : Nat → List Nat} {P : List (Nat × Nat × Nat)} {d m : Nat} {seq : List Nat} {by' : Nat → Nat} (h : Ry W P d seq by') (hm : ∀ x, x ∈ seq → x < m) : Hg m seq by' :=
  ⟨fun x hx => ⟨hm x hx, (h.nz x hx).1⟩, fun j x hj => by
    rcases h.src j x hj with ⟨h1, -⟩ | ⟨h1, -⟩ | ⟨κ, -, h1, -⟩
    · exact .inl h1
    · exact .inr h1
    · exact .inr h1⟩
theorem hold_iff {seq : List Nat} {by' : Nat → Nat} {e : Ep} : hold (byv seq by') e = true ↔ e.1 ∈ seq ∧ e.2.1 ∈ seq := by
  unfold hold
  rw [Bool.and_eq_true, bne_iff_ne, bne_iff_ne, ne_eq, ne_eq, byv_neg, byv_neg, Classical.not_not, Classical.not_not]
theorem ry_len {W : Nat → List Nat} {P : List (Nat × Nat × Nat)} {d m : Nat} {seq : List Nat} {by' : Nat → Nat} (h : Ry W P d seq by') (hm : ∀ x, x ∈ seq → x < m) : seq.length ≤ m := by
  have h1 := List.Nodup.length_le_of_subset h.nd (fun x hx => List.mem_range.2 (hm x hx))
  rw [List.length_range] at h1
  exact h1
end Go.Proofs.YtkekaifiahjljaaGreatDoor
namespace Go.Proofs.YtkekaifiahjljaaGreatDoor
open Go.RowKit Go.Shelf Go.Proofs.YtkekaifiahjljaaGreatDoor.Lt
def wbF (wb R m : Nat) (vp : Value) (vs : Nat → Value) : List Nat := wb :: (vp.ownBlock.toList ++ llF R m vs)
theorem mem_wbF {wb R m k : Nat} {vp : Value} {vs : Nat → Value} : k ∈ wbF wb R m vp vs ↔ k = wb ∨ vp.ownBlock = some k ∨ k ∈ llF R m vs := by
  simp only [wbF, List.mem_cons, List.mem_append, Option.mem_toList]
variable {w w' : World} {B wb R m : Nat} {vw vp : Value} {vs : Nat → Value} {P : List Ep} {L : Nat → List Ep}
theorem Wb.mem (h : Wb w B wb R m vw vp vs P L) : ∀ k, k ∈ wbF wb R m vp vs → B ≤ k ∧ k < w.heap.size := fun k hk => by
  rcases mem_wbF.1 hk with rfl | h1 | h1
  · exact ⟨h.lo, Kg.heap_lt h.h⟩
  · exact World.ownsRow.lt h.p k h1
  · exact h.l.mem k h1
theorem Wb.nR (h : Wb w B wb R m vw vp vs P L) : wb ∉ llF R m vs := fun hm => by
  rcases mem_llF.1 hm with h1 | ⟨i, hi, h1⟩
  · obtain ⟨cs, h2, -⟩ := h.l.h
    rw [← h1, h.h] at h2
    simp only [Option.some.injEq, Obj.cells.injEq] at h2
    exact absurd h2.2.1 (by decide)
  · exact row_ne2 h.h (h.l.l i hi) (by decide) h1.symm
theorem Wb.nP (h : Wb w B wb R m vw vp vs P L) : vp.ownBlock ≠ some wb := fun e => row_ne2 h.h h.p (by decide) e.symm
theorem Wb.keep (h : Wb w B wb R m vw vp vs P L) {G : List Nat} (ht : Kg.Touch G w w') (hG : ∀ k, k ∈ wbF wb R m vp vs → k ∉ G) : Wb w' B wb R m vw vp vs P L :=
  ⟨(ht.block _ (Kg.heap_lt h.h) (hG wb (mem_wbF.2 (.inl rfl)))).trans h.h, h.p.keep ht (fun k hk => hG k (mem_wbF.2 (.inr (.inl hk)))), h.l.keep ht (fun k hk => hG k (mem_wbF.2 (.inr (.inr hk)))), h.pl, h.lo⟩
theorem Wb.below (h : Wb w B wb R m vw vp vs P L) (hb : Below w.heap.size w w') : Wb w' B wb R m vw vp vs P L := h.keep (Kg.Touch.of_below hb []) (fun _ _ => List.not_mem_nil)
theorem Wb.push (h : Wb w B wb R m vw vp vs P L) {w8 : World} {v8 : Value} {e : Ep} (h8 : w8.ownsRow B 156 3 v8 (P.length + 1) (epl P ++ (epc e).toList)) (g8 : (w.alloc (.cells (epc e) 156)).grownBy w8 vp.ownBlock) (e8 : v8.ownBlock = vp.ownBlock ∨ v8.ownBlock = some (w.alloc (.cells (epc e) 156)).heap.size) :
    ∃ a8 c8, v8 = .slice a8 (P.length + 1) c8 ∧ w8.cell? ⟨wb, 1, none⟩ = some vp ∧ w8.frozen? ⟨wb, 1, none⟩ = false ∧ Hid (Wb (w8.setCell ⟨wb, 1, none⟩ v8) B wb R m vw v8 vs (P ++ [e]) L ∧ Kg.Touch (wbF wb R m vp vs) w (w8.setCell ⟨wb, 1, none⟩ v8) ∧ Kg.Newer w.heap.size (wbF wb R m vp vs) (wbF wb R m v8 vs)) := by
  obtain ⟨s1, s2, s3⟩ := Eo.snoc h.p h8 g8 e8
  obtain ⟨a8, c8, e9⟩ := own_sl17 h8
  have hwb : wb ∉ vp.ownBlock.toList := fun hm => by rw [Option.mem_toList] at hm; exact h.nP hm
  have hh8 := (s2.block _ (Kg.heap_lt h.h) hwb).trans h.h
  have hl8 := h.l.keep s2 (fun k hk hm => by rw [Option.mem_toList] at hm; exact h.pl k hm hk)
  have tS : Kg.Touch [wb] w8 (w8.setCell ⟨wb, 1, none⟩ v8) := Kg.Touch.setCell _ _ _ (by simp)
  have hw8 : v8.ownBlock ≠ some wb := fun e => row_ne2 hh8 s1 (by decide) e.symm
  have hlo := h.lo
  have hlt := Kg.heap_lt h.h
  refine ⟨a8, c8, e9, Kg.heap_cell hh8 1, Kg.heap_frozen hh8 1, ⟨Kg.heap_set hh8 1 v8, s1.keep tS (fun k hk hm => hw8 (by rw [hk, List.mem_singleton.1 hm])), hl8.keep tS (fun k hk hm => h.nR (by rw [← List.mem_singleton.1 hm]; exact hk)), fun k hk hm => ?_, h.lo⟩, ?_⟩
  · rcases s3 k hk with h1 | h1
    · exact h.pl k h1 hm
    · have := (h.l.mem k hm).2
      omega
  · refine ⟨(s2.mono (fun k hk => .inl (mem_wbF.2 (.inr (.inl (by rw [Option.mem_toList] at hk; exact hk)))))).trans (tS.mono (fun k hk => .inl (mem_wbF.2 (.inl (by simpa using hk))))), fun k hk => ?_⟩
    rcases mem_wbF.1 hk with h1 | h1 | h1
    · exact .inl (mem_wbF.2 (.inl h1))
    · rcases s3 k h1 with h2 | h2
      · exact .inl (mem_wbF.2 (.inr (.inl h2)))
      · exact .inr h2
    · exact .inl (mem_wbF.2 (.inr (.inr h1)))
def lpt (L : Nat → List Ep) (i : Nat) (e : Ep) : Nat → List Ep := fun j => if j = i then L i ++ [e] else L j
theorem Wb.part (h : Wb w B wb R m vw vp vs P L) {i : Nat} (hi : i < m) {w8 : World} {v8 : Value} {e : Ep} (h8 : w8.ownsRow B 156 3 v8 ((L i).length + 1) (epl (L i) ++ (epc e).toList)) (g8 : (w.alloc (.cells (epc e) 156)).grownBy w8 (vs i).ownBlock) (e8 : v8.ownBlock = (vs i).ownBlock ∨ v8.ownBlock = some (w.alloc (.cells (epc e) 156)).heap.size) :
    ∃ a8 c8, v8 = .slice a8 ((L i).length + 1) c8 ∧ w8.cell? ⟨R, i, none⟩ = some (vs i) ∧ w8.frozen? ⟨R, i, none⟩ = false ∧ Hid (Wb (w8.setCell ⟨R, i, none⟩ v8) B wb R m vw vp (fun j => if j = i then v8 else vs j) P (lpt L i e) ∧ Kg.Touch (wbF wb R m vp vs) w (w8.setCell ⟨R, i, none⟩ v8) ∧ Kg.Newer w.heap.size (wbF wb R m vp vs) (wbF wb R m vp (fun j => if j = i then v8 else vs j))) := by
  obtain ⟨s1, s2, s3⟩ := Eo.snoc (h.l.l i hi) h8 g8 e8
  obtain ⟨a8, c8, e9⟩ := own_sl17 h8
  obtain ⟨h1, h2, h3⟩ := h.l.put hi s2 s1 s3
  obtain ⟨f1, f2, f3⟩ := h1.out
  have hlo := h.lo
  have hlt := Kg.heap_lt h.h
  refine ⟨a8, c8, e9, h2, h3, ⟨(f2.block _ hlt h.nR).trans h.h, h.p.keep f2 h.pl, f1, fun k hk hm => ?_, h.lo⟩, f2.mono (fun k hk => .inl (mem_wbF.2 (.inr (.inr hk)))), fun k hk => ?_⟩
  · rcases f3 k hm with h4 | h4
    · exact h.pl k hk h4
    · have := (World.ownsRow.lt h.p k hk).2
      omega
  · rcases mem_wbF.1 hk with h4 | h4 | h4
    · exact .inl (mem_wbF.2 (.inl h4))
    · exact .inl (mem_wbF.2 (.inr (.inl h4)))
    · rcases f3 k h4 with h5 | h5
      · exact .inl (mem_wbF.2 (.inr (.inr h5)))
      · exact .inr h5
structure Wl (P : List Ep) (L : Nat → List Ep) : Prop where
  i : ∀ n e, e ∈ L n ↔ e ∈ P ∧ (e.1 = n ∨ e.2.1 = n)
  n : ∀ n, (L n).length ≤ 2 * P.length
theorem Wl.nil : Wl [] (fun _ => []) := ⟨fun n e => by simp, fun n => Nat.zero_le _⟩
theorem Wl.add (h : Wl P L) (e : Ep) : Wl (P ++ [e]) (lpt (lpt L e.1 e) e.2.1 e) := by
  refine ⟨fun n x => ?_, fun n => ?_⟩
  · have hn := h.i n x
    show x ∈ (if n = e.2.1 then (if e.2.1 = e.1 then L e.1 ++ [e] else L e.2.1) ++ [e] else if n = e.1 then L e.1 ++ [e] else L n) ↔ _
    by_cases h1 : n = e.2.1
    · rw [if_pos h1]
      by_cases h2 : e.2.1 = e.1
      · rw [if_pos h2, ← h2, ← h1]
        simp only [List.mem_append, List.mem_singleton, hn]
        constructor
        · rintro ((⟨a, b⟩ | rfl) | rfl)
          · exact ⟨.inl a, b⟩
          · exact ⟨.inr rfl, .inr h1.symm⟩
          · exact ⟨.inr rfl, .inr h1.symm⟩
        · rintro ⟨a | a, b⟩
          · exact .inl (.inl ⟨a, b⟩)
          · exact .inr a
      · rw [if_neg h2, ← h1]
        simp only [List.mem_append, List.mem_singleton, hn]
        constructor
        · rintro (⟨a, b⟩ | rfl)
          · exact ⟨.inl a, b⟩
          · exact ⟨.inr rfl, .inr h1.symm⟩
        · rintro ⟨a | a, b⟩
          · exact .inl ⟨a, b⟩
          · exact .inr a
    · rw [if_neg h1]
      by_cases h2 : n = e.1
      · rw [if_pos h2, ← h2]
        simp only [List.mem_append, List.mem_singleton, hn]
        constructor
        · rintro (⟨a, b⟩ | rfl)
          · exact ⟨.inl a, b⟩
          · exact ⟨.inr rfl, .inl h2.symm⟩
        · rintro ⟨a | a, b⟩
          · exact .inl ⟨a, b⟩
          · exact .inr a
      · rw [if_neg h2, hn]
        simp only [List.mem_append, List.mem_singleton]
        constructor
        · rintro ⟨a, b⟩
          exact ⟨.inl a, b⟩
        · rintro ⟨a | rfl, b⟩
          · exact ⟨a, b⟩
          · rcases b with b | b
            · exact absurd b.symm h2
            · exact absurd b.symm h1
  · have hn := h.n n
    have h3 := h.n e.1
    have h4 := h.n e.2.1
    rw [List.length_append, List.length_singleton]
    show (if n = e.2.1 then (if e.2.1 = e.1 then L e.1 ++ [e] else L e.2.1) ++ [e] else if n = e.1 then L e.1 ++ [e] else L n).length ≤ _
    split
    · split
      · simp only [List.length_append, List.length_singleton]; omega
      · simp only [List.length_append, List.length_singleton]; omega
    · split
      · simp only [List.length_append, List.length_singleton]; omega
      · omega
end Go.Proofs.YtkekaifiahjljaaGreatDoor
namespace Go.Proofs.YtkekaifiahjljaaGreatDoor
open Go.RowKit Go.Shelf Go.Proofs.YtkekaifiahjljaaGreatDoor.Lt Go.Proofs.YtkekaifiahjljaaGreatDoor.Lp
theorem que_out {W : World} {base b N : Nat} {m : Int} {xs : List Int} {F : List Nat} (h : Kg.Que W base b m N xs F) {c t : Nat} {cs : Array Value} (hc : W.heap[c]? = some (.cells cs t (0, 0))) (h1 : t ≠ 127) (h2 : t ≠ 3) : c ∉ F := by
  obtain ⟨v, ts, f, hh, hb, hr, -, -, -, rfl⟩ := h
  intro hm
  rcases List.mem_cons.1 hm with e | hm
  · rw [e, hh] at hc
    simp only [Option.some.injEq, Obj.cells.injEq] at hc
    exact h1 hc.2.1.symm
  · rw [Option.mem_toList] at hm
    exact Kg.row_ne hc hr h2 hm.symm
def MeetC (w0 : World) (lo : Value) (d m : Nat) : Prop := ∀ (B Q c2 c3 c4 bb N : Nat) (f : Nat → Int) (x b : Nat) (xs : List Int) (F : List Nat) (w : World), Below w0.heap.size w0 w → w.heap[c2]? = some (Obj.cells #[.slice (some ⟨bb, 0, none⟩) m m] 24 (0, 0)) → w.heap[c3]? = some (Obj.cells #[lo] 100 (0, 0)) → w.heap[c4]? = some (Obj.cells #[.pointer (some ⟨Q, 0, none⟩)] 85 (0, 0)) → Fy w bb m f → Kg.Que w B Q 0 N xs F → bb ∉ F → x < m → B ≤ w.heap.size → N < 8796093022208 →
    Calls Tryz.prog 117 #[.int .i64 (x : Nat), .int .i64 (b : Nat), .pointer (some ⟨c2, 0, none⟩), .pointer (some ⟨c3, 0, none⟩), .pointer (some ⟨c4, 0, none⟩)] w fun e w' => e = .returned (.tuple #[]) ∧ (((x = 0 ∨ f x ≠ -1 ∨ x = d) ∧ w' = w) ∨ (x ≠ 0 ∧ f x = -1 ∧ x ≠ d ∧ ∃ F', Fy w' bb m (fun y => if y = x then (b : Int) else f y) ∧ Kg.Que w' B Q 0 (N + 1) (xs ++ [(x : Int)]) F' ∧ Kg.Touch (bb :: F) w w' ∧ Kg.Newer w.heap.size F F'))
theorem meetC1 (w0 : World) (m : Nat) : MeetC w0 (.func (.func 68) #[] #[]) 0 m := fun B Q c2 c3 c4 bb N f x b xs F w _ h2 h3 h4 hb hq hbF hx hB hN => by
  refine (meet1_any B Q c2 c3 c4 bb m N 85 f x b xs F w h2 h3 h4 (by decide) hb hq hbF hx hB hN).mono ?_
  rintro e w' ⟨h1, h | ⟨h5, h6, h7⟩⟩
  · exact ⟨h1, .inl ⟨h.1.imp id .inl, h.2⟩⟩
  · exact ⟨h1, .inr ⟨h5, h6, h5, h7⟩⟩
theorem meetC2 (w0 : World) (m : Nat) (pn : Addr) (n : Nat) (hl : pn.block < w0.heap.size) (hc : w0.cell? pn = some (.int .i64 (n : Nat))) : MeetC w0 (.func (.func 73) #[] #[.pointer (some pn)]) n m := fun B Q c2 c3 c4 bb N f x b xs F w hb0 h2 h3 h4 hb hq hbF hx hB hN =>
  meet2_any pn n B Q c2 c3 c4 bb m N 85 f x b xs F w h2 h3 h4 (by decide) hb hq hbF hx hB hN ((hb0.cell hl).trans hc)
structure Sr (W : Nat → List Nat) (P : List Ep) (d m : Nat) (lo : Value) (B Q c2 c3 c4 bb : Nat) (seq : List Nat) (by' : Nat → Nat) (s : Nat) (wr : World) (F : List Nat) : Prop where
  ry : Ry W P d seq by'
  lt : ∀ y, y ∈ seq → y < m
  h2 : wr.heap[c2]? = some (Obj.cells #[.slice (some ⟨bb, 0, none⟩) m m] 24 (0, 0))
  h3 : wr.heap[c3]? = some (Obj.cells #[lo] 100 (0, 0))
  h4 : wr.heap[c4]? = some (Obj.cells #[.pointer (some ⟨Q, 0, none⟩)] 85 (0, 0))
  fy : Fy wr bb m (byv seq by')
  q : Kg.Que wr B Q 0 seq.length ((seq.drop s).map Int.ofNat) F
  s : s ≤ seq.length
  bB : bb < B
  BS : B ≤ wr.heap.size
variable {W : Nat → List Nat} {P : List Ep} {d m : Nat} {lo : Value} {B Q c2 c3 c4 bb : Nat} {seq : List Nat} {by' : Nat → Nat} {s : Nat} {w0 wr w' : World} {F : List Nat}
theorem Sr.bF (h : Sr W P d m lo B Q c2 c3 c4 bb seq by' s wr F) : bb ∉ F := fun hm => by
  have := (h.q.mem bb hm).1
  have := h.bB
  omega
theorem Sr.out (h : Sr W P d m lo B Q c2 c3 c4 bb seq by' s wr F) {c t : Nat} {cs : Array Value} (hc : wr.heap[c]? = some (.cells cs t (0, 0))) (h1 : t ≠ 127) (h2 : t ≠ 3) : c ∉ bb :: F := fun hm => by
  rcases List.mem_cons.1 hm with e | hm
  · obtain ⟨ds, hds, -⟩ := h.fy.ex
    exact block_ne hc hds h2 e
  · exact que_out h.q hc h1 h2 hm
theorem Sr.below (h : Sr W P d m lo B Q c2 c3 c4 bb seq by' s wr F) (hb : Below wr.heap.size wr w') : Sr W P d m lo B Q c2 c3 c4 bb seq by' s w' F :=
  ⟨h.ry, h.lt, (hb.block _ (Kg.heap_lt h.h2)).trans h.h2, (hb.block _ (Kg.heap_lt h.h3)).trans h.h3, (hb.block _ (Kg.heap_lt h.h4)).trans h.h4, h.fy.touch (Kg.Touch.of_below hb []) (List.not_mem_nil), h.q.keep (Kg.Touch.of_below hb []) (fun _ _ => List.not_mem_nil), h.s, h.bB, Nat.le_trans h.BS hb.size⟩
theorem Sr.meet (h : Sr W P d m lo B Q c2 c3 c4 bb seq by' s wr F) (hC : MeetC w0 lo d m) (hb : Below w0.heap.size w0 wr) (hB : w0.heap.size ≤ B) (hbb : w0.heap.size ≤ bb) (hmm : m ≤ 2000001) {x b : Nat} (hx : x < m) (hm : x ≠ 0 → x ≠ d → (b = 0 ∧ x ∈ W 0) ∨ (b ∈ seq ∧ b ≠ 0 ∧ x ∈ W b) ∨ (∃ κ, (b, κ, x) ∈ P ∧ b ∈ seq ∧ κ ∈ seq)) :
    Calls Tryz.prog 117 #[.int .i64 (x : Nat), .int .i64 (b : Nat), .pointer (some ⟨c2, 0, none⟩), .pointer (some ⟨c3, 0, none⟩), .pointer (some ⟨c4, 0, none⟩)] wr fun e w' => e = .returned (.tuple #[]) ∧ ∃ new by2 F', Sr W P d m lo B Q c2 c3 c4 bb (seq ++ new) by2 s w' F' ∧ (x ≠ 0 → x ≠ d → x ∈ seq ++ new) ∧ Below w0.heap.size w0 w' ∧ Kp wr w' := by
  have hlen := ry_len h.ry h.lt
  refine (hC B Q c2 c3 c4 bb seq.length _ x b _ F wr hb h.h2 h.h3 h.h4 h.fy h.q h.bF hx h.BS (by omega)).mono ?_
  rintro e w6 ⟨h1, ⟨h5, rfl⟩ | ⟨h5, h6, h7, F', u1, u2, u3, u4⟩⟩
  · refine ⟨h1, [], by', F, by rw [List.append_nil]; exact h, fun a1 a2 => ?_, hb, fun _ _ hX => hX⟩
    rw [List.append_nil]
    rcases h5 with h5 | h5 | h5
    · exact absurd h5 a1
    · exact Classical.byContradiction (fun k => h5 (byv_neg.2 k))
    · exact absurd h5 a2
  · have hxs := byv_neg.1 h6
    have blk : ∀ {c t : Nat} {cs : Array Value}, wr.heap[c]? = some (.cells cs t (0, 0)) → t ≠ 127 → t ≠ 3 → w6.heap[c]? = some (.cells cs t (0, 0)) := fun hc k1 k2 => (u3.block _ (Kg.heap_lt hc) (h.out hc k1 k2)).trans hc
    refine ⟨h1, [x], fun y => if y = x then b else by' y, F', ⟨h.ry.add hxs h5 h7 (hm h5 h7), fun y hy => ?_, blk h.h2 (by decide) (by decide), blk h.h3 (by decide) (by decide), blk h.h4 (by decide) (by decide), ?_, ?_, by rw [List.length_append]; have := h.s; omega, h.bB, Nat.le_trans h.BS u3.size⟩, fun _ _ => by simp, ?_, fun X cs hX => blk hX (by decide) (by decide)⟩
    · rcases List.mem_append.1 hy with h8 | h8
      · exact h.lt y h8
      · rw [List.mem_singleton.1 h8]; exact hx
    · rw [← byv_add]; exact u1
    · rw [List.drop_append_of_le_length h.s, List.map_append, List.length_append]
      exact u2
    · exact hb.trans (u3.below hb.size (fun k hk => by
        rcases List.mem_cons.1 hk with rfl | h8
        · exact hbb
        · exact Nat.le_trans hB (h.q.mem k h8).1))
theorem Sr.took (h : Sr W P d m lo B Q c2 c3 c4 bb seq by' s wr F) (u1 : Kg.Que w' B Q 0 seq.length ((seq.drop (s + 1)).map Int.ofNat) F) (u2 : Kg.Touch F wr w') (hs : s + 1 ≤ seq.length) : Sr W P d m lo B Q c2 c3 c4 bb seq by' (s + 1) w' F := by
  have blk : ∀ {c t : Nat} {cs : Array Value}, wr.heap[c]? = some (.cells cs t (0, 0)) → t ≠ 127 → t ≠ 3 → w'.heap[c]? = some (.cells cs t (0, 0)) := fun hc k1 k2 => (u2.block _ (Kg.heap_lt hc) (que_out h.q hc k1 k2)).trans hc
  exact ⟨h.ry, h.lt, blk h.h2 (by decide) (by decide), blk h.h3 (by decide) (by decide), blk h.h4 (by decide) (by decide), h.fy.touch u2 h.bF, u1, hs, h.bB, Nat.le_trans h.BS u2.size⟩
def Sx (W : Nat → List Nat) (P : List Ep) (d m : Nat) (lo : Value) (B Q c2 c3 c4 bb : Nat) (w0 : World) (v8 v9 : Value) (wr : World) (j : Nat) : Prop :=
  ∃ (nv : Nat) (ok : Bool) (seq : List Nat) (by' : Nat → Nat) (s : Nat) (F : List Nat), v8 = .int .i64 (nv : Nat) ∧ v9 = .bool ok ∧ nv < m ∧ Sr W P d m lo B Q c2 c3 c4 bb seq by' s wr F ∧ Below w0.heap.size w0 wr ∧
    (ok = true → j = m + 1 - s ∧ ((s = 0 ∧ nv = 0 ∧ seq = []) ∨ (1 ≤ s ∧ Rx W P d seq (s - 1) by' ∧ seq[s - 1]? = some nv))) ∧ (ok = false → j = 0 ∧ Rx W P d seq seq.length by')
theorem number_done {nv : Nat} {new : List Nat} {by2 : Nat → Nat} (hp : ∀ i κ v, (i, κ, v) ∈ P → i ≠ 0 ∧ κ ≠ 0) (h : (s = 0 ∧ nv = 0 ∧ seq = []) ∨ (1 ≤ s ∧ Rx W P d seq (s - 1) by' ∧ seq[s - 1]? = some nv)) (h2 : Ry W P d (seq ++ new) by2) (hw : ∀ y, y ∈ W nv → y ≠ d → y ∈ seq ++ new) (he : ∀ e, e ∈ P → (e.1 = nv ∨ e.2.1 = nv) → e.1 ∈ seq → e.2.1 ∈ seq → e.2.2 ≠ d → e.2.2 ∈ seq ++ new) : Rx W P d (seq ++ new) s by2 := by
  rcases h with ⟨rfl, rfl, rfl⟩ | ⟨h3, h4, h5⟩
  · exact h2.start hw
  · have h6 := h4.next h5 h2 hw (fun i κ v a1 a2 a3 a4 a5 => he (i, κ, v) a1 a3 (List.mem_of_mem_take a4) (List.mem_of_mem_take a5) a2)
    rw [Nat.sub_add_cancel h3] at h6
    exact h6
end Go.Proofs.YtkekaifiahjljaaGreatDoor
