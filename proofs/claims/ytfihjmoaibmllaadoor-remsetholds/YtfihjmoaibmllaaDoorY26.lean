/-
  fields().
-/
import Derived.Test.YtfihjmoaibmllaaDoorY25
import Derived.Laws.MakeOwn
set_option linter.unusedVariables false
set_option maxRecDepth 20000
namespace Go.Proofs.YtfihjmoaibmllaaDoor
open Go.RowKit Go.Shelf

theorem Tryd.infoInts : (Tryd.prog.info? 42).map (fun i => (i.zero, i.size, i.bytes)) = some (some (.slice none 0 0), 1, 24) := by kernel_rfl

set_option maxHeartbeats 4000000 in
theorem fields6_any {n1 : Nat} {w : World} {lb : Nat} {c : Cfg} {L : List LT} (h : Ly n1 w lb c L) (hn1 : n1 ≤ w.heap.size) (hlen : L.length ≤ 400) (hfew : ∀ T, T ∈ L → T.ps.length ≤ 60) :
    Calls Tryd.prog 10 #[.pointer (some ⟨lb, 0, none⟩)] w fun e w' => ∃ v, e = .returned v ∧ ∃ Fr, Fd w' w.heap.size v Fr ∧ Fr.map (·.2) = L.map (fun T => List.replicate T.ps.length 0) ∧ Below w.heap.size w w' := by
  obtain ⟨i0, hi0, hz0, hz1, hz2⟩ := info_parts Tryd.infoInt
  obtain ⟨i1, gi0, gz0, gz1, gz2⟩ := info_parts Tryd.infoInts
  have HI : Hid (Tryd.prog.info? 42 = some i1 ∧ i1.zero = some (.slice none 0 0) ∧ i1.size = 1 ∧ i1.bytes = 24) := ⟨gi0, gz0, gz1, gz2⟩
  have HLy : Hid (Ly n1 w lb c L) := h
  have Hfew : Hid (∀ T, T ∈ L → T.ps.length ≤ 60) := hfew
  have HMk : Hid (∀ (n : Nat), n ≤ 60 → ∀ w', (Instr.makeSlice 42 (.int .i64 n) (.int .i64 n)).run Tryd.prog w' = .ok (.slice (some ⟨w'.heap.size, 0, none⟩) n n) (w'.alloc (.cells (madeCells #[.int .i64 0] n) 3))) := fun n hn w' => by
    have := run_make (P := Tryd.prog) w' 42 3 i0 (.int .i64 0) Tryd.underlying42 hi0 hz0 .i64 .i64 n n (by omega) (Int.le_refl _) (by rw [hz2]; omega) (by omega)
    rw [hz1, Nat.mul_one] at this
    simpa [Value.cells] using this
  clear h hfew hi0 hz0 hz1 hz2 gi0 gz0 gz1 gz2
  go_enter Tryd.func10, Tryd.ntmps10
  go_wp2
  go_loopw [3, 4] (fun v3 v4 wr => ∃ k : Nat, k ≤ L.length ∧ v4 = .int .i64 k ∧ ∃ Fr, Hid (Fd wr w.heap.size v3 Fr) ∧ Hid (Fr.map (·.2) = (L.take k).map (fun T => List.replicate T.ps.length 0)) ∧ Hid (Below w.heap.size w wr)) (fun _ v4 _ => L.length - (intOf v4).toNat)
  case atStart => exact ⟨0, Nat.zero_le _, rfl, [], Fd.nil _ _, rfl, Below.refl _ _⟩
  case round =>
    obtain ⟨k, hk, rfl, Fr, HF, HE, Hbe⟩ := hrel
    have hFl : Fr.length = k := by
      have := congrArg List.length HE.out
      simp at this
      omega
    by_cases hkl : k < L.length
    · have hT : L[k]? = some (L[k]'hkl) := List.getElem?_eq_getElem hkl
      generalize L[k]'hkl = T at hT
      have HT : Hid (L[k]? = some T) := hT
      have hly := HLy.out.below (Hbe.out.mono hn1)
      obtain ⟨q, off, cap, -, -, -, l14, -, cs, -, -, -, -⟩ := hly.thing hT
      obtain ⟨a8, c8, hvp⟩ : ∃ a8 c8, T.vp = .slice a8 T.ps.length c8 := by
        obtain ⟨v, -, a, cap, -, h2⟩ := hly.things
        obtain ⟨-, ⟨a, cap, e, -⟩, -⟩ := h2 k T hT
        exact ⟨_, _, e⟩
      have d8 : wr.cell? ⟨q, off + k * 11 + 8, none⟩ = some (.slice a8 T.ps.length c8) := by rw [← hvp]; exact cs 8 (by decide)
      have hmk := HMk.out T.ps.length (Hfew.out T (List.mem_of_getElem? hT))
      have hfl := Hfew.out T (List.mem_of_getElem? hT)
      have hkI : (k : Int) < (L.length : Int) := by omega
      obtain ⟨a3, n3, c3, rfl⟩ := row_slice HF.out.row
      have Htk : Hid (L.take (k + 1) = L.take k ++ [T]) := by show _ = _; rw [List.take_add_one, hT]; rfl
      clear hT cs hly hvp
      obtain ⟨np, hnp⟩ : ∃ np, np = T.ps.length := ⟨_, rfl⟩
      rw [← hnp] at d8 hmk hfl
      have Hnp : Hid (np = T.ps.length) := hnp
      obtain ⟨N, hN⟩ : ∃ N, N = L.length := ⟨_, rfl⟩
      rw [← hN] at l14 hkI hkl hlen
      have HN : Hid (N = L.length) := hN
      clear hnp hN
      go_upto_region 6 with fail
      have l1 : Below wr.heap.size wr (wr.alloc (.cells (madeCells #[.int .i64 0] np) 3)) := Below.alloc (Below.refl _ _) (Nat.le_refl _) _
      have hnew : (wr.alloc (.cells (madeCells #[.int .i64 0] np) 3)).heap[wr.heap.size]? = some (.cells (madeCells #[.int .i64 0] np) 3 (0, 0)) := heap_alloc_new wr _
      have HF1 : Hid (Fd (wr.alloc (.cells (madeCells #[.int .i64 0] np) 3)) w.heap.size (.slice a3 n3 c3) Fr) := HF.out.below l1
      have Hbe1 : Hid (Below w.heap.size w (wr.alloc (.cells (madeCells #[.int .i64 0] np) 3))) := Hbe.out.trans (l1.mono Hbe.out.size)
      have Hfresh : Hid ((∀ p, p ∈ Fr → p.1 < wr.heap.size) ∧ w.heap.size ≤ wr.heap.size) := ⟨fun p hp => (Array.getElem?_eq_some_iff.1 (HF.out.rows p hp).1).1, Hbe.out.size⟩
      have HnewH : Hid ((wr.alloc (.cells (madeCells #[.int .i64 0] np) 3)).heap[wr.heap.size]? = some (.cells (madeCells #[.int .i64 0] np) 3 (0, 0))) := hnew
      clear l1 hnew HF Hbe d8 l14 hmk
      generalize wr.alloc (.cells (madeCells #[.int .i64 0] np) 3) = w2 at *
      obtain ⟨R, hR⟩ : ∃ R, R = wr.heap.size := ⟨_, rfl⟩
      rw [← hR] at HnewH Hfresh ⊢
      clear hR
      go_wp2_with (at_builtin; refine wpList_append_own_at _ rfl _ _ 40 rfl w.heap.size 42 i1 (.slice none 0 0) 1 24 Tryd.underlying40 HI.out.1 HI.out.2.1 HI.out.2.2.1 HI.out.2.2.2 rfl (by decide) _ _ _ rfl (HF1.out.row.alloc _) ⟨w2.heap.size, 0, none⟩ 1 1 [.slice (some ⟨R, 0, none⟩) np np] rfl rfl (cell_one_new _ _ _) (by simp [Value.oneCell']) (by simp [maxLen]; omega) (by omega) (by have := Hbe1.out.size; simp; omega) ?_; intro v' w3 hown' hgrow _ hat)
      have hkeep : ∀ (q : Nat) (cs : Array Value), w2.heap[q]? = some (.cells cs 3 (0, 0)) → w3.heap[q]? = w2.heap[q]? := fun q cs hq => by
        have hql := (Array.getElem?_eq_some_iff.1 hq).1
        rw [hgrow.block q (by simp; omega) (fun e => by
          have e' : some q = (Value.slice a3 n3 c3).ownBlock := e
          exact row_ne hq HF1.out.row (by decide) e')]
        exact Below.heap_alloc _ _ _ hql
      have HF3 : Hid (Fd w3 w.heap.size v' (Fr ++ [(R, List.replicate np 0)])) := by
        refine ⟨?_, fun p hp => ?_, ?_⟩
        · have e : (Fr ++ [(R, List.replicate np 0)]).map fval = Fr.map fval ++ [.slice (some ⟨R, 0, none⟩) np np] := by simp [fval]
          rw [e, List.length_append]
          exact hown'
        · rw [List.mem_append] at hp
          rcases hp with hp | hp
          · obtain ⟨h1, h2⟩ := HF1.out.rows p hp
            exact ⟨(hkeep _ _ h1).trans h1, h2⟩
          · simp at hp
            subst hp
            refine ⟨?_, Hfresh.out.2⟩
            rw [hkeep _ _ HnewH.out, HnewH.out, made_rep]
            simp [ints]
        · rw [List.map_append, List.nodup_append]
          refine ⟨HF1.out.dp, by simp, fun a ha b hb => ?_⟩
          simp at hb
          subst hb
          obtain ⟨p, hp, rfl⟩ := List.mem_map.1 ha
          have := Hfresh.out.1 p hp
          omega
      have HE3 : Hid ((Fr ++ [(R, List.replicate np 0)]).map (fun p : Nat × List Int => p.2) = (L.take (k + 1)).map (fun T => List.replicate T.ps.length 0)) := by
        show (Fr ++ [(R, List.replicate np 0)]).map (fun p : Nat × List Int => p.2) = _
        rw [Htk.out, List.map_append, List.map_append, HE.out, Hnp.out]
        rfl
      have Hbe3 : Hid (Below w.heap.size w w3) := (Hbe1.out.alloc Hbe1.out.size _).grown hgrow (by have := Hbe1.out.size; simp; omega) (fun y hy => by
        rcases HF1.out.row.2 with ⟨e1, -⟩ | ⟨g, cap, cur, e1, e2, -⟩
        · have hy' : (Value.slice a3 n3 c3).ownBlock = some y := hy
          rw [e1] at hy'
          simp [Value.ownBlock] at hy'
        · have hy' : (Value.slice a3 n3 c3).ownBlock = some y := hy
          rw [e1] at hy'
          simp [Value.ownBlock] at hy'
          omega)
      obtain ⟨a7, n7, c7, hv7⟩ := row_slice hown'
      subst hv7
      clear hown' hgrow hat HF1 Hbe1 hkeep HnewH Hfresh
      go_roundw
      case rel => exact ⟨k + 1, by have := HN.out; omega, by go_num, _, HF3, HE3, Hbe3⟩
      case measure => have := HN.out; simp [intOf]; omega
    · have hkn : ¬ (k : Int) < (L.length : Int) := by omega
      have hke : k = L.length := by omega
      obtain ⟨a0, cap0, a1, cap1, l14, l15⟩ := (HLy.out.below (Hbe.out.mono hn1)).lens
      have HE2 : Hid (Fr.map (·.2) = L.map (fun T => List.replicate T.ps.length 0)) := by
        have := HE.out
        rw [hke, List.take_length] at this
        exact this
      go_wp2
      go_ret
      exact ⟨_, rfl, Fr, HF.out, HE2.out, Hbe.out⟩

end Go.Proofs.YtfihjmoaibmllaaDoor
