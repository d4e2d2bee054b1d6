/-
  each, walked.
-/
import Derived.Test.YtdlannfjnljbcaaGreatDoorR17
set_option linter.unusedVariables false
namespace Go.Proofs.YtdlannfjnljbcaaGreatDoor
open Go.RowKit

/-- Between two threads. -/
structure E1 (J : List Nat → List Int → World → Prop) (ans : List Int → Int → Int) (n0 base b g h q N : Nat) (FQ : List Nat) (vs : Nat → Value) (S : Sta) (X : List Nat) (t : Nat) (w : World) : Prop where
  rt : Rt w base b g h q N FQ vs { S with rw := rwT ans S t }
  j : ∃ X', J X' (preT S t) w ∧ ∀ k, k ∈ X → k ∈ X'
  sz : n0 ≤ w.heap.size

/-- Between two slots of thread t. -/
structure E2 (J : List Nat → List Int → World → Prop) (ans : List Int → Int → Int) (n0 base b g h q N : Nat) (FQ : List Nat) (vs : Nat → Value) (S : Sta) (X : List Nat) (t B : Nat) (a0 a1 : Option Addr) (c0 c1 : Nat) (k : Nat) (w : World) : Prop where
  rt : Rt w base b g h q N FQ vs { S with rw := upd (rwT ans S t) (t * 2 + 1) (midl ans (preT S t) (S.rw (t * 2 + 1)) k) }
  j : ∃ X', J X' (preT S t ++ nz ((S.rw (t * 2 + 1)).take k)) w ∧ (∀ k, k ∈ X → k ∈ X') ∧ B ∈ X'
  box : w.heap[B]? = some (.cells #[.slice a0 (S.rw (t * 2)).length c0, .slice a1 (S.rw (t * 2 + 1)).length c1] 84 (0, 0))
  sz : n0 ≤ w.heap.size

theorem E1.begin {J : List Nat → List Int → World → Prop} {dk M : Nat} {r : Value} {ans : List Int → Int → Int} (V : Vis dk r ans J M) {n0 base b g h q N : Nat} {FQ : List Nat} {vs : Nat → Value} {S : Sta} {X : List Nat} {t : Nat} {w : World} (e : E1 J ans n0 base b g h q N FQ vs S X t w)
    (a0 a1 : Option Addr) (c0 c1 : Nat) : E2 J ans n0 base b g h q N FQ vs S X t w.heap.size a0 a1 c0 c1 0 (w.alloc (.cells #[.slice a0 (S.rw (t * 2)).length c0, .slice a1 (S.rw (t * 2 + 1)).length c1] 84)) := by
  obtain ⟨X', hj, hX⟩ := e.j
  refine ⟨?_, ⟨w.heap.size :: X', ?_, fun k hk => by simp [hX k hk], by simp⟩, heap_alloc_new w _, by have := e.sz; simp; omega⟩
  · rw [midl_zero, ← rwT_ge ans S t (t * 2 + 1) (by omega), upd_id]
    exact e.rt.touch (Touch.alloc [] _ _) (fun k _ h => by cases h)
  · simpa [nz] using V.more X' _ w _ hj

theorem E2.finish {J : List Nat → List Int → World → Prop} {ans : List Int → Int → Int} {n0 base b g h q N : Nat} {FQ : List Nat} {vs : Nat → Value} {S : Sta} {X : List Nat} {t B : Nat} {a0 a1 : Option Addr} {c0 c1 : Nat} {w : World}
    (e : E2 J ans n0 base b g h q N FQ vs S X t B a0 a1 c0 c1 (S.rw (t * 2 + 1)).length w) : E1 J ans n0 base b g h q N FQ vs S X (t + 1) w := by
  obtain ⟨X', hj, hX, -⟩ := e.j
  refine ⟨?_, ⟨X', ?_, hX⟩, e.sz⟩
  · have := e.rt
    rw [midl_all] at this
    exact this
  · rw [List.take_length] at hj
    exact hj

theorem E2.step {J : List Nat → List Int → World → Prop} {dk M : Nat} {r : Value} {ans : List Int → Int → Int} (V : Vis dk r ans J M) {n0 base b g h q N : Nat} {FQ : List Nat} {vs : Nat → Value} {S : Sta} {X : List Nat} {t B : Nat} {a0 a1 : Option Addr} {c0 c1 k : Nat} {w : World}
    (e : E2 J ans n0 base b g h q N FQ vs S X t B a0 a1 c0 c1 k w) (ht : t < S.T) (hO : S.Ok) (hX : ∀ k, k ∈ fp b g h FQ S.T vs → k ∈ X) {s : Nat} (es : vs (t * 2 + 1) = .slice (some ⟨s, 0, none⟩) (S.rw (t * 2 + 1)).length c1) {x : Int} (hx : (S.rw (t * 2 + 1))[k]? = some x) (hM : t * 4096 + 4096 < M) (hB : B ≠ s) :
    ∃ y, Calls Tryz.prog 57 #[.func (.func dk) #[r] #[], .int .i64 x] w.drew (fun e' w5 => e' = .returned (.int .i64 y) ∧ w5.cell? ⟨B, 1, none⟩ = some (.slice a1 (S.rw (t * 2 + 1)).length c1) ∧ w5.cell? ⟨s, k, none⟩ = some (.int .i64 x) ∧ w5.frozen? ⟨s, k, none⟩ = false ∧
      E2 J ans n0 base b g h q N FQ vs S X t B a0 a1 c0 c1 (k + 1) (w5.setCell ⟨s, k, none⟩ (.int .i64 y))) ∧ w.cell? ⟨s, k, none⟩ = some (.int .i64 x) := by
  obtain ⟨X', hj, hX', hBX⟩ := e.j
  have hk := (List.getElem?_eq_some_iff.1 hx).1
  have hrm := hO.room t ht
  have hm2 := hO.m2
  have hj' := V.keep X' _ w w.drew hj (Touch.drew _ _)
  have hpre : (preT S t ++ nz ((S.rw (t * 2 + 1)).take k)).length < M := by
    have h1 := preT_len hO t (by omega)
    have h2 := nz_len ((S.rw (t * 2 + 1)).take k)
    simp at h2 ⊢
    omega
  have hro := root_vis V X' _ x w.drew hj' (hO.s0 t ht x (List.mem_of_getElem? hx)) hpre
  have ei : ({ S with rw := upd (rwT ans S t) (t * 2 + 1) (midl ans (preT S t) (S.rw (t * 2 + 1)) k) } : Sta).rw (t * 2 + 1) = midl ans (preT S t) (S.rw (t * 2 + 1)) k := upd_same _ _ _
  have r0 := e.rt.row (t * 2 + 1) (by show _ < S.T * 2; omega)
  rw [ei, midl_length _ _ _ _ (by omega), es] at r0
  have c0 : w.cell? ⟨s, k, none⟩ = some (.int .i64 x) := by
    rw [r0.cellAt _ (by omega)]
    simp only [ints, List.getElem?_map, midl_get, hx, Option.map_some]
  have hsX : s ∈ X' := hX' s (hX s (mem_fp.2 (.inr (.inr (.inr (.inr ⟨t * 2 + 1, by omega, by rw [es]; rfl⟩))))))
  refine ⟨if x = 0 then 0 else ans (preT S t ++ nz ((S.rw (t * 2 + 1)).take k)) x, hro.mono ?_, c0⟩
  rintro e' w5 ⟨rfl, hJ5, hX5, hs5⟩
  have hX6 : ∀ k, k ∈ fp b g h FQ S.T vs → w5.heap[k]? = w.heap[k]? := fun k hk => hX5 k (hX' k (hX k hk))
  have hst := slot_step e.rt (i := t * 2 + 1) (by show _ < S.T * 2; omega) es hX6 k (if x = 0 then 0 else ans (preT S t ++ nz ((S.rw (t * 2 + 1)).take k)) x)
  rw [ei] at hst
  rw [midl_succ _ _ _ _ _ hx] at hst
  simp only [upd_upd] at hst
  refine ⟨rfl, ?_, ?_, ?_, hst, ⟨X', ?_, hX', hBX⟩, ?_, by have := e.sz; simp [World.setCell] at hs5 ⊢; omega⟩
  · have := heap_cell ((hX5 B hBX).trans e.box) 1
    simpa using this
  · exact (World.cell?_of_block (w := w) (hX5 s hsX)).trans c0
  · rw [World.frozen?_of_block (w := w) (hX5 s hsX)]
    exact r0.frozenAt k
  · have h1 := V.keep X' _ _ _ hJ5 (Touch.setCell w5 ⟨s, k, none⟩ (.int .i64 (if x = 0 then 0 else ans (preT S t ++ nz ((S.rw (t * 2 + 1)).take k)) x)) hsX)
    rw [List.append_assoc, ← nz_append, take_snoc' hx] at h1
    exact h1
  · rw [Below.heap_setCell _ _ _ _ hB]
    exact (hX5 B hBX).trans e.box

/-- Between two handles. -/
structure E3 (J : List Nat → List Int → World → Prop) (ans : List Int → Int → Int) (n0 base b g h q N : Nat) (FQ : List Nat) (vs : Nat → Value) (S : Sta) (X : List Nat) (k : Nat) (w : World) : Prop where
  rt : Rt w base b g h q N FQ vs { S with rw := rwT ans S S.T, hs := hmid ans (preT S S.T) S.hs k }
  j : ∃ X', J X' (preT S S.T ++ hnz (S.hs.take k)) w ∧ ∀ k, k ∈ X → k ∈ X'
  sz : n0 ≤ w.heap.size

theorem E3.step {J : List Nat → List Int → World → Prop} {dk M : Nat} {r : Value} {ans : List Int → Int → Int} (V : Vis dk r ans J M) {n0 base b g h q N : Nat} {FQ : List Nat} {vs : Nat → Value} {S : Sta} {X : List Nat} {k : Nat} {w : World}
    (e : E3 J ans n0 base b g h q N FQ vs S X k w) (hO : S.Ok) (hX : ∀ k, k ∈ fp b g h FQ S.T vs → k ∈ X) {o : Option Int} (hx : S.hs[k]? = some o) (hM : 40000 < M) (hbw : ∀ k, k ∈ X → k < w.heap.size) :
    ∃ y, Calls Tryz.prog 57 #[.func (.func dk) #[r] #[], .int .i64 (o.getD 0)] (w.alloc (.cells #[.bool o.isSome, .int .i64 (o.getD 0)] 72)).drew (fun e' w5 => e' = .returned (.int .i64 y) ∧ w5.cell? ⟨b, 2, none⟩ = some (.slice (some ⟨h, 0, none⟩) S.hs.length S.hs.length) ∧ w5.cell? ⟨w.heap.size, 1, none⟩ = some (.int .i64 (o.getD 0)) ∧ w5.cell? ⟨h, k * 2 + 1, none⟩ = some (.int .i64 (o.getD 0)) ∧ w5.frozen? ⟨h, k * 2 + 1, none⟩ = false ∧
      E3 J ans n0 base b g h q N FQ vs S X (k + 1) (w5.setCell ⟨h, k * 2 + 1, none⟩ (.int .i64 y))) ∧ w.cell? ⟨h, k * 2, none⟩ = some (.bool o.isSome) ∧ w.cell? ⟨h, k * 2 + 1, none⟩ = some (.int .i64 (o.getD 0)) ∧ w.cell? ⟨b, 2, none⟩ = some (.slice (some ⟨h, 0, none⟩) S.hs.length S.hs.length) := by
  obtain ⟨X', hj, hX'⟩ := e.j
  have hk := (List.getElem?_eq_some_iff.1 hx).1
  have hl : (hmid ans (preT S S.T) S.hs k).length = S.hs.length := hmid_length _ _ _ _ (by omega)
  have hg : (hmid ans (preT S S.T) S.hs k)[k]? = some o := (hmid_get _ _ _ _).trans hx
  have b2 := e.rt.c2
  have c0 := e.rt.hnd.cell (i := k * 2) (by show _ < (hmid ans (preT S S.T) S.hs k).length * 2; omega)
  have c1 := e.rt.hnd.cell (i := k * 2 + 1) (by show _ < (hmid ans (preT S S.T) S.hs k).length * 2; omega)
  rw [hcell_even] at c0
  rw [hcell_odd] at c1
  have eo : hop (hmid ans (preT S S.T) S.hs k) k = o.isSome := by unfold hop; rw [hg]; cases o <;> rfl
  have ea : hat (hmid ans (preT S S.T) S.hs k) k = o.getD 0 := by unfold hat; rw [hg]; cases o <;> rfl
  simp only [eo] at c0
  simp only [ea] at c1
  simp only [hl] at b2
  have hx0 : 0 ≤ o.getD 0 := by
    cases o with
    | none => simp
    | some x => exact hO.h0 x (List.mem_of_getElem? hx)
  have hj1 := V.more X' _ w (.cells #[.bool o.isSome, .int .i64 (o.getD 0)] 72) hj
  have hj' := V.keep _ _ _ (w.alloc (.cells #[.bool o.isSome, .int .i64 (o.getD 0)] 72)).drew hj1 (Touch.drew _ _)
  have hpre : (preT S S.T ++ hnz (S.hs.take k)).length < M := by
    have h1 := preT_len hO S.T (Nat.le_refl _)
    have h2 := hnz_len (S.hs.take k)
    have h3 := hO.T8
    have h4 := hO.hn
    simp at h2 ⊢
    omega
  have hro := root_vis V (w.heap.size :: X') _ (o.getD 0) _ hj' hx0 hpre
  have hbl : ∀ k, k ∈ X → (w.alloc (.cells #[.bool o.isSome, .int .i64 (o.getD 0)] 72)).drew.heap[k]? = w.heap[k]? := fun k hk => Below.heap_alloc w _ k (hbw k hk)
  refine ⟨if o.getD 0 = 0 then 0 else ans (preT S S.T ++ hnz (S.hs.take k)) (o.getD 0), hro.mono ?_, c0, c1, b2⟩
  rintro e' w5 ⟨rfl, hJ5, hX5, hs5⟩
  have hX6 : ∀ k, k ∈ fp b g h FQ S.T vs → w5.heap[k]? = w.heap[k]? := fun k hk => (hX5 k (by simp [hX' k (hX k hk)])).trans (hbl k (hX k hk))
  have hb5 : w5.heap[b]? = w.heap[b]? := hX6 b (by simp [mem_fp])
  have hh5 : w5.heap[h]? = w.heap[h]? := hX6 h (by simp [mem_fp])
  have hst := handle_step e.rt (k := k) (o := o) hg hX6 (fun x => if x = 0 then 0 else ans (preT S S.T ++ hnz (S.hs.take k)) x) (if o.getD 0 = 0 then 0 else ans (preT S S.T ++ hnz (S.hs.take k)) (o.getD 0)) (by cases o <;> simp)
  rw [hmid_succ _ _ _ _ _ hx] at hst
  have hhX : h ∈ w.heap.size :: X' := by simp [hX' h (hX h (by simp [mem_fp]))]
  refine ⟨rfl, ?_, ?_, ?_, ?_, hst, ⟨w.heap.size :: X', ?_, fun k hk => by simp [hX' k hk]⟩, by have := e.sz; simp [World.setCell] at hs5 ⊢; omega⟩
  · exact (World.cell?_of_block (w := w) hb5).trans b2
  · have := hX5 w.heap.size (by simp)
    have h2 : w5.heap[w.heap.size]? = some (.cells #[.bool o.isSome, .int .i64 (o.getD 0)] 72 (0, 0)) := this.trans (heap_alloc_new w _)
    have := heap_cell h2 1
    simpa using this
  · exact (World.cell?_of_block (w := w) hh5).trans c1
  · rw [World.frozen?_of_block (w := w) hh5]
    exact e.rt.hnd.frozen _
  · have h1 := V.keep _ _ _ _ hJ5 (Touch.setCell w5 ⟨h, k * 2 + 1, none⟩ (.int .i64 (if o.getD 0 = 0 then 0 else ans (preT S S.T ++ hnz (S.hs.take k)) (o.getD 0))) hhX)
    have e2 : hnz (S.hs.take k) ++ nz [o.getD 0] = hnz (S.hs.take (k + 1)) := by
      rw [← take_snoc' hx, hnz_append]; rfl
    rw [List.append_assoc, e2] at h1
    exact h1

end Go.Proofs.YtdlannfjnljbcaaGreatDoor
