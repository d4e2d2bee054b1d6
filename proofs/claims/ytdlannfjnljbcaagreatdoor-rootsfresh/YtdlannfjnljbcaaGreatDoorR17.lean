/-
  each: steps.
-/
import Derived.Test.YtdlannfjnljbcaaGreatDoorR16
set_option linter.unusedVariables false
namespace Go.Proofs.YtdlannfjnljbcaaGreatDoor
open Go.RowKit

theorem map_nil (q dk : Nat) (r : Value) (w : World) (h0 : w.cell? ⟨q, 0, none⟩ = some (.slice none 0 0)) (h1 : w.cell? ⟨q, 1, none⟩ = some (.int .i64 0)) :
    Calls Tryz.prog 58 #[.pointer (some ⟨q, 0, none⟩), .func (.func 57) #[.func (.func dk) #[r] #[]] #[]] w fun e w' => e = .returned (.tuple #[]) ∧ ∃ nq, w' = w.drewN nq := by
  have hhe := held_nil q w h0 h1
  clear h0 h1
  go_enter Tryz.func58, Tryz.ntmps58
  go_wp2_with fail
  refine hhe.mono ?_
  rintro e w' ⟨rfl, nq, rfl⟩
  go_wp2
  go_rounds 1
  go_returns
  exact ⟨rfl, nq, rfl⟩

theorem que_vis {dk : Nat} {r : Value} {ans : List Int → Int → Int} {J : List Nat → List Int → World → Prop} {M : Nat} (V : Vis dk r ans J M) (base q N : Nat) (xs : List Int) (FQ X : List Nat) (pre : List Int) (W : World)
    (hq : Que W base q 0 N xs FQ) (hj : J X pre W) (hX : ∀ k, k ∈ FQ → k ∈ X) (hN : N < 8796093022208) (h0 : ∀ x ∈ xs, 0 ≤ x) (hM : pre.length + N < M) :
    Calls Tryz.prog 58 #[.pointer (some ⟨q, 0, none⟩), .func (.func 57) #[.func (.func dk) #[r] #[]] #[]] W fun e W' => e = .returned (.tuple #[]) ∧ Que W' base q 0 N (newl ans pre xs) FQ ∧ J X (pre ++ nz xs) W' ∧ (∀ k, k ∈ X → k ∉ FQ → W'.heap[k]? = W.heap[k]?) ∧ W.heap.size ≤ W'.heap.size := by
  obtain ⟨v, ts, f, hh, hb, hr, hf, rfl, hl, rfl⟩ := hq
  rcases hr.2 with ⟨rfl, hz⟩ | ⟨g, cap, cur, rfl, hbg, hg, hn, hm, hs, ht⟩
  · obtain rfl : ts = [] := List.eq_nil_of_length_eq_zero hz
    obtain rfl : f = 0 := by simpa using hf
    have c0 := heap_cell hh 0
    have c1 := heap_cell hh 1
    simp only [List.getElem?_toArray, List.getElem?_cons_zero, List.getElem?_cons_succ] at c0 c1
    refine (map_nil q dk r W c0 c1).mono ?_
    rintro e W' ⟨rfl, nq, rfl⟩
    exact ⟨rfl, ⟨_, [], 0, hh, hb, hr, Nat.le_refl _, rfl, hl, rfl⟩, by simpa [nz] using V.keep X pre W _ hj (Touch.drewN _ _ _), fun _ _ _ => rfl, Nat.le_refl _⟩
  · have hm0 : Mq W base q g cap f ts ans pre 0 := ⟨hh, by rw [midl_zero, List.take_append_drop]; exact hr⟩
    refine (map_vis V base q g cap f ts X pre W hm0 hj (hX q (by simp)) (hX g (by simp [Value.ownBlock])) hf (by omega) h0 (by omega)).mono ?_
    rintro e W' ⟨rfl, hm', hJ', hX', hs'⟩
    have e1 : midl ans pre (ts.drop f) (ts.length - f) = newl ans pre (ts.drop f) := by
      rw [← List.length_drop]; exact midl_all _ _ _
    have hrow := hm'.row
    rw [e1] at hrow
    have hlen : (ts.take f ++ newl ans pre (ts.drop f)).length = ts.length := by simp [newl_length]; omega
    refine ⟨rfl, ⟨_, ts.take f ++ newl ans pre (ts.drop f), f, by rw [hm'.que], hb, by rw [hlen]; exact hrow, by rw [hlen]; exact hf, ?_, by rw [hlen]; exact hl, rfl⟩, hJ', fun k hk hn => hX' k hk (fun e => hn (by simp [Value.ownBlock, e])), hs'⟩
    rw [List.drop_append_of_le_length (by simp; omega), List.drop_take, Nat.sub_self, List.take_zero, List.nil_append]

/-- The queue is turned in its place. -/
theorem Rt.setQueIn {w w' : World} {base b g h q N : Nat} {FQ : List Nat} {vs : Nat → Value} {S : Sta} (H : Rt w base b g h q N FQ vs S) {qs' : List Int} (hk : ∀ k, k ∈ fp b g h FQ S.T vs → k ∉ FQ → w'.heap[k]? = w.heap[k]?) (hq : Que w' base q 0 N qs' FQ) :
    Rt w' base b g h q N FQ vs { S with qs := qs' } :=
  ⟨H.bb, H.bg, H.bh, (hk b (by simp [mem_fp]) H.b_nq).trans H.own, H.thr.of_block (hk g (by simp [mem_fp]) H.g_nq), H.hnd.of_block (hk h (by simp [mem_fp]) H.h_nq), hq,
    fun i hi => own_keep (k := 0) (H.row i hi) (fun k e => hk k (mem_fp.2 (.inr (.inr (.inr (.inr ⟨i, hi, e⟩))))) (H.apq i k hi e)), H.ap, H.apq⟩

theorem slot_step {w3 w5 : World} {base b g h q N : Nat} {FQ : List Nat} {vs : Nat → Value} {S : Sta} (H : Rt w3 base b g h q N FQ vs S) {i : Nat} (hi : i < S.T * 2) {s n d : Nat} (es : vs i = .slice (some ⟨s, 0, none⟩) n d)
    (hX : ∀ k, k ∈ fp b g h FQ S.T vs → w5.heap[k]? = w3.heap[k]?) (k : Nat) (y : Int) : Rt (w5.setCell ⟨s, k, none⟩ (.int .i64 y)) base b g h q N FQ vs { S with rw := upd S.rw i ((S.rw i).set k y) } := by
  have H5 := H.keep hX
  have r := H5.row i hi
  have hst : (w5.setCell ⟨s, k, none⟩ (.int .i64 y)).ownsRow base 3 1 (vs i) (S.rw i).length ((ints (S.rw i)).set k (.int .i64 y)) := by
    have r' := r
    rw [es] at r' ⊢
    obtain ⟨a, c, e⟩ := own_slice r'
    simp only [Value.slice.injEq] at e
    obtain ⟨-, rfl, -⟩ := e
    exact (r'.stored k (.int .i64 y)).1
  refine H5.setIn hi (Touch.setCell _ _ _ (by rw [es]; simp [Value.ownBlock])) (by simp) ?_
  rw [List.length_set]
  have e1 : (ints (S.rw i)).set k (.int .i64 y) = ints ((S.rw i).set k y) := by simp [ints, List.map_set]
  rw [e1] at hst
  exact hst

theorem handle_step {w3 w5 : World} {base b g h q N : Nat} {FQ : List Nat} {vs : Nat → Value} {S : Sta} (H : Rt w3 base b g h q N FQ vs S) {k : Nat} {o : Option Int} (ho : S.hs[k]? = some o)
    (hX : ∀ k, k ∈ fp b g h FQ S.T vs → w5.heap[k]? = w3.heap[k]?) (f : Int → Int) (y : Int) (hy : (o.map f).getD 0 = y) : Rt (w5.setCell ⟨h, k * 2 + 1, none⟩ (.int .i64 y)) base b g h q N FQ vs { S with hs := S.hs.set k (o.map f) } := by
  have hk := (List.getElem?_eq_some_iff.1 ho).1
  have H5 := H.keep hX
  refine H5.setHnd (Touch.setCell _ _ _ (by simp)) (by simp) ((H5.hnd.set (k * 2 + 1) (.int .i64 y)).congr (fun j _ => ?_))
  rw [hcell_set hk]
  by_cases e : j = k * 2 + 1
  · rw [if_pos e, if_pos e, hy]
  · rw [if_neg e, if_neg e]
    by_cases e2 : j = k * 2
    · rw [if_pos e2, e2, hcell_even]
      unfold hop
      rw [ho]
      cases o <;> rfl
    · rw [if_neg e2]

end Go.Proofs.YtdlannfjnljbcaaGreatDoor
