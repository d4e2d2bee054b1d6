/-
  slices.Clone of bits.
-/
import Derived.Test.YtlnfhnahnmblmabDoorM7
set_option linter.unusedVariables false
namespace Go.Proofs.YtlnfhnahnmblmabDoor
open Go.RowKit Go.Shelf



set_option maxRecDepth 20000 in
set_option maxHeartbeats 1000000 in
theorem clone_any (g L : Nat) (f : Nat → Nat) (hL : L ≤ 20000) (w : World) (hr : w.rowIs g 59 L (fun i => .int .u64 (f i : Nat))) :
    Calls Tryd.prog 48 #[.slice (some ⟨g, 0, none⟩) L L] w fun r w' => ∃ p C, r = .returned (.slice p L C) ∧ Below w.heap.size w w' ∧ ∀ i, i < L → ∃ g', w.heap.size ≤ g' ∧ p = some ⟨g', 0, none⟩ ∧ w'.cell? ⟨g', i, none⟩ = some (.int .u64 (f i : Nat)) := by
  obtain ⟨i0, hi0, hz0, hz1, hz2⟩ := info_parts Tryd.infoU64
  have hnil : ∀ w, (binOp .eql 55 (.slice (some ⟨g, 0, none⟩) L L) (.slice none 0 0)).run Tryd.prog w = .ok (.bool false) w := fun w => by first | rfl | kernel_rfl | (simp [binOp, go_sem]; done)
  obtain ⟨news, hnw⟩ : ∃ news : List Value, news = (List.range L).map (fun i => .int .u64 (f i : Nat)) := ⟨_, rfl⟩
  have hlen : news.length = L * 1 := by rw [hnw]; simp
  have hone : ∀ u ∈ news, u.oneCell' = true := by
    rw [hnw]; intro u hu
    simp only [List.mem_map] at hu
    obtain ⟨i, -, rfl⟩ := hu; rfl
  have hget : ∀ i, i < L → news[i]? = some (.int .u64 (f i : Nat)) := by
    intro i hi; rw [hnw]; simp [hi]
  have hr1 := hr.alloc (.cells #[] 59)
  have hnews : ∀ j u, news[j]? = some u → (w.alloc (.cells #[] 59)).cell? ((⟨g, 0, none⟩ : Addr).add j) = some u := by
    intro j u hj
    have hjl : j < L := by
      have := (List.getElem?_eq_some_iff.1 hj).1
      omega
    have hadd : (⟨g, 0, none⟩ : Addr).add j = ⟨g, j, none⟩ := by unfold Addr.add; split <;> simp_all
    rw [hadd, hr1.cell hjl, ← hj, hget j hjl]
  have hown : (w.alloc (.cells #[] 59)).ownsRow w.heap.size 59 1 (.slice (some ⟨w.heap.size, 0, none⟩) 0 0) 0 [] :=
    ⟨rfl, .inr ⟨w.heap.size, 0, #[], rfl, Nat.le_refl _, heap_alloc_new w _, Nat.le_refl _, by decide, rfl, rfl⟩⟩
  have hb1 : Below w.heap.size w (w.alloc (.cells #[] 59)) := Below.alloc (Below.refl _ _) (Nat.le_refl _) _
  have HH : Hid ((Tryd.prog.info? 59 = some i0) ∧ i0.zero = some (.int .u64 0) ∧ i0.size = 1 ∧ i0.bytes = 8) := ⟨hi0, hz0, hz1, hz2⟩
  have HN : Hid (∀ j u, news[j]? = some u → (w.alloc (.cells #[] 59)).cell? ((⟨g, 0, none⟩ : Addr).add j) = some u) := hnews
  have HO : Hid (∀ u ∈ news, u.oneCell' = true) := hone
  have HL : Hid (news.length = L * 1) := hlen
  have HG : Hid (∀ i, i < L → news[i]? = some (.int .u64 (f i : Nat))) := hget
  have HW : Hid ((w.alloc (.cells #[] 59)).ownsRow w.heap.size 59 1 (.slice (some ⟨w.heap.size, 0, none⟩) 0 0) 0 []) := hown
  clear hi0 hz0 hz1 hz2 hr hr1 hnews hone hlen hget hown hnw
  go_enter Tryd.func48, Tryd.ntmps48
  go_wp2_with (at_builtin; refine wpList_append_own_at _ rfl _ _ 55 rfl w.heap.size 59 i0 (.int .u64 0) 1 8 Tryd.underlying55 HH.out.1 HH.out.2.1 HH.out.2.2.1 HH.out.2.2.2 rfl (by decide) _ _ _ rfl HW.out ⟨g, 0, none⟩ L L news rfl HL.out HN.out HO.out (by simp [maxLen]; omega) (by omega) (by simp) ?_)
  intro v' w2 ho hg _ _
  have hb2 : Below w.heap.size w w2 := hb1.grown hg hb1.size (fun k e => by simp [Value.ownBlock] at e; omega)
  have hcells : ∀ i, i < L → ∃ g' C, w.heap.size ≤ g' ∧ v' = .slice (some ⟨g', 0, none⟩) L C ∧ w2.cell? ⟨g', i, none⟩ = some (.int .u64 (f i : Nat)) := by
    intro i hi
    obtain ⟨hl, ⟨_, h0⟩ | ⟨g', cap, cur, hv, hge, hh, hn, -, hs, ht⟩⟩ := ho
    · omega
    · refine ⟨g', cap, hge, by rw [hv], ?_⟩
      rw [cell_of_row _ _ i _ _ _ hh]
      have := HG.out i hi
      rw [← ht, List.getElem?_take_of_lt (by omega)] at this
      simpa using this
  have hv : ∃ p C, v' = .slice p L C := by
    obtain ⟨hl, ⟨h0, h1⟩ | ⟨g', cap, cur, hv, -⟩⟩ := ho
    · have : L = 0 := by omega
      subst this
      exact ⟨_, _, h0⟩
    · exact ⟨_, _, hv⟩
  obtain ⟨p, C, rfl⟩ := hv
  have HC : Hid (∀ i, i < L → ∃ g', w.heap.size ≤ g' ∧ p = some ⟨g', 0, none⟩ ∧ w2.cell? ⟨g', i, none⟩ = some (.int .u64 (f i : Nat))) := fun i hi => by
    obtain ⟨g', C', h1, h2, h3⟩ := hcells i hi
    simp only [Value.slice.injEq] at h2
    exact ⟨g', h1, h2.1, h3⟩
  clear ho hg hcells hb1
  go_wp2
  go_ret
  exact ⟨p, C, rfl, hb2, HC.out⟩
end Go.Proofs.YtlnfhnahnmblmabDoor
