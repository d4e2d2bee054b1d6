import Derived.Test.YtckgcpoheodbcaaDoorPLs
import Derived.Laws.CopyOwn
import Derived.Test.YtckgcpoheodbcaaDoorLPC
/-
  Shortest paths: slices.Repeat of one number.
-/
set_option linter.unusedVariables false
set_option maxRecDepth 20000
namespace Go.Proofs.YtckgcpoheodbcaaDoor
open Go.RowKit Go.Shelf

set_option maxHeartbeats 2000000 in
theorem mul64_one (y : Nat) (hy : y < 4294967296) (w : World) : Calls Tryd.prog 79 #[.int .u64 1, .int .u64 (y : Int)] w fun e w' => e = .returned (.tuple #[.int .u64 0, .int .u64 (y : Int)]) ∧ w' = w := by
  have e1 : bits .and .u64 1 4294967295 = 1 := (mask 32 4294967295 (by decide) (by decide) (m := 1) ⟨by omega, by omega⟩).trans (by decide)
  have e2 : bits .and .u64 (y : Int) 4294967295 = (y : Int) := (mask 32 4294967295 (by decide) (by decide) (m := (y : Int)) ⟨by omega, by omega⟩).trans (by omega)
  have e3 : bits .and .u64 0 4294967295 = 0 := (mask 32 4294967295 (by decide) (by decide) (m := 0) ⟨by omega, by omega⟩).trans (by decide)
  have e4 : (y : Int) / 4294967296 = 0 := by omega
  have e5 : IntKind.u64.wrap (y : Int) = (y : Int) := by rw [IntKind.wrap_u64]; omega
  go_enter Tryd.func79, Tryd.ntmps79
  go_wp2
  go_ret2
  exact ⟨rfl, rfl⟩

set_option maxHeartbeats 2000000 in
theorem mul_one (y : Nat) (hy : y < 4294967296) (w : World) : Calls Tryd.prog 65 #[.int .u64 1, .int .u64 (y : Int)] w fun e w' => e = .returned (.tuple #[.int .u64 0, .int .u64 (y : Int)]) ∧ w' = w := by
  have q := mul64_one y hy w
  go_enter Tryd.func65, Tryd.ntmps65
  go_wp2_with fail
  refine q.mono ?_
  rintro e w' ⟨rfl, rfl⟩
  go_wp2
  go_ret2
  exact ⟨rfl, rfl⟩

/-- As far as it was filled. -/
def rcl (z : Int) (m n : Nat) : List Value := List.replicate n (.int .i64 z) ++ List.replicate (m - n) (.int .i64 0)

theorem rcl_len {z : Int} {m n : Nat} (h : n ≤ m) : (rcl z m n).length = m := by unfold rcl; simp; omega

theorem rcl_zero (z : Int) (m : Nat) : rcl z m 0 = List.replicate m (.int .i64 0) := by unfold rcl; simp

theorem rcl_splice {z : Int} {m n c : Nat} (h : n + c ≤ m) : splice (rcl z m n) n (List.replicate c (.int .i64 z)) = rcl z m (n + c) := by
  unfold splice rcl
  rw [List.take_left' (by simp), List.length_replicate, List.drop_append]
  simp only [List.length_replicate, List.drop_replicate]
  rw [show n - (n + c) = 0 by omega, List.replicate_zero, List.nil_append, show m - n - (n + c - n) = m - (n + c) by omega, ← List.append_assoc, List.replicate_append_replicate]

theorem made_rcl (z : Int) (m : Nat) : madeCells #[.int .i64 0] m = (rcl z m 0).toArray := by
  rw [rcl_zero]
  apply Array.ext
  · simp [madeCells]
  · intro i h1 h2
    simp [madeCells, Nat.mod_one]

set_option maxHeartbeats 4000000 in
theorem repeat_any (b m : Nat) (z : Int) (w : World) (hc : w.cell? ⟨b, 0, none⟩ = some (.int .i64 z)) (hb : b < w.heap.size) (h1 : 1 ≤ m) (h2 : m ≤ 2000000) :
    Calls Tryd.prog 48 #[.slice (some ⟨b, 0, none⟩) 1 1, .int .i64 (m : Int)] w fun e w' => e = .returned (.slice (some ⟨w.heap.size, 0, none⟩) m m) ∧ w'.heap[w.heap.size]? = some (.cells (rcl z m m).toArray 3 (0, 0)) ∧ Below w.heap.size w w' := by
  obtain ⟨i0, hi0, hj0, hj1, hj2⟩ := info_p17 infoI17
  have hi64 : (Tryd.prog.info? 3).map (·.size) = some 1 := by rw [hi0]; simp [hj1]
  have HI : Hid ((Tryd.prog.info? 3).map (·.size) = some 1) := hi64
  clear hi0 hj0 hj1 hj2 hi64
  have q := mul_one m (by omega) w
  have e5 : IntKind.u64.wrap (m : Int) = (m : Int) := by rw [IntKind.wrap_u64]; omega
  have hmk := make_ints17 m (by omega)
  have g1 : decide ((m : Int) < 0) = false := decide_eq_false (by omega)
  have g2 : decide ((9223372036854775807 : Int) < (m : Int)) = false := decide_eq_false (by omega)
  go_enter Tryd.func48, Tryd.ntmps48
  go_wp2_with fail
  refine q.mono ?_
  rintro e w' ⟨rfl, rfl⟩
  clear q
  go_upto_region 7 with fail
  obtain ⟨g, hg⟩ : ∃ g, g = w'.heap.size := ⟨_, rfl⟩
  have hx : (w'.alloc (.cells (madeCells #[.int .i64 0] m) 3)).heap[g]? = some (.cells (rcl z m 0).toArray 3 (0, 0)) := by rw [hg, ← made_rcl]; exact heap_alloc_new w' _
  have b1 : Below g w' (w'.alloc (.cells (madeCells #[.int .i64 0] m) 3)) := by rw [hg]; exact Below.alloc (Below.refl _ _) (Nat.le_refl _) _
  have hc1 := (b1.cell (p := ⟨b, 0, none⟩) (by rw [hg]; exact hb)).trans hc
  rw [← hg]
  have HG : Hid (g = w'.heap.size) := hg
  clear hg hmk g1 g2 e5 hc
  generalize w'.alloc (.cells (madeCells #[.int .i64 0] m) 3) = w1 at *
  obtain ⟨C1, hC1⟩ : ∃ x, x = [Value.int .i64 z] := ⟨_, rfl⟩
  have HC1 : Hid (C1 = List.replicate 1 (Value.int .i64 z)) := hC1
  have HC3 : Hid (∀ j v, C1[j]? = some v → w1.cell? ((⟨b, 0, none⟩ : Addr).add j) = some v) := fun j v hj => by
    rw [hC1] at hj
    cases j with
    | zero => cases hj; rw [Addr.add_lit]; exact hc1
    | succ j => simp at hj
  have HC4 : Hid (∀ v, v ∈ C1 → v.oneCell' = true) := fun v hv => by rw [hC1] at hv; simp at hv; rw [hv]; rfl
  have HC5 : Hid (C1.length = Nat.min 1 m ∧ 0 + C1.length ≤ (rcl z m 0).length) := by
    rw [rcl_len (Nat.zero_le _), hC1]
    refine ⟨?_, by simp; omega⟩
    show 1 = min 1 m
    omega
  go_wp2_with (refine wpList_copy_splice rfl (.tmp 31) (.tmp 32) 24 24 rfl 3 Tryd.underlying24 HI.out _ _ _ _ _ _ rfl rfl g 0 (rcl z m 0) 3 hx C1 HC5.out.1 (fun _ => ⟨rfl, _, rfl, HC3.out⟩) HC5.out.2 HC4.out g w' b1 (Nat.le_refl _) ?_; intro w2 hg2 hb2)
  clear HC3 HC4 HC5
  have e1 : C1.length = 1 := by rw [hC1]; rfl
  have HG2 : Hid (w2.heap[g]? = some (.cells (rcl z m 1).toArray 3 (0, 0))) := by
    have h9 := hg2.out
    rw [HC1.out, rcl_splice (by omega)] at h9
    exact h9
  have HB2 : Hid (Below g w' w2) := hb2
  clear hg2 hb2 hx b1 hc1 hC1 HC1 e1 C1
  go_loopw [8] (fun v wr => ∃ n : Nat, 1 ≤ n ∧ n ≤ m ∧ v = .int .i64 (n : Nat) ∧ Hid (wr.heap[g]? = some (.cells (rcl z m n).toArray 3 (0, 0))) ∧ Hid (Below g w' wr)) (fun v _ => m - (intOf v).toNat)
  case atStart => exact ⟨1, Nat.le_refl _, h1, rfl, HG2, HB2⟩
  case round =>
    obtain ⟨n, hn1, hn2, rfl, HR, HB⟩ := hrel
    by_cases hlt : n < m
    · have hltI : (n : Int) < (m : Int) := by omega
      have hne : ¬ m = n := by omega
      obtain ⟨c, hc⟩ : ∃ c, c = min n (m - n) := ⟨_, rfl⟩
      have hc1 : 1 ≤ c ∧ n + c ≤ m := by omega
      obtain ⟨C1, hC1⟩ : ∃ x, x = List.replicate c (Value.int .i64 z) := ⟨_, rfl⟩
      have HC1 : Hid (C1 = List.replicate c (Value.int .i64 z)) := hC1
      have HCl : Hid (C1.length = c) := by show _ = _; rw [hC1, List.length_replicate]
      have HC2 : Hid (∀ j v, C1[j]? = some v → j < n ∧ v = .int .i64 z) := fun j v hj => by
        rw [hC1, List.getElem?_replicate] at hj
        split at hj
        · cases hj; exact ⟨by omega, rfl⟩
        · cases hj
      have HCm : Hid (c = Nat.min n (m - n)) := hc
      clear hC1 hc
      go_upto_region 9 with fail
      have HF1 : Hid (wr.drew.heap[g]? = some (.cells (rcl z m n).toArray 3 (0, 0))) := HR
      have HF3 : Hid (∀ j v, C1[j]? = some v → wr.drew.cell? ((⟨g, 0, none⟩ : Addr).add j) = some v) := fun j v hj => by
        obtain ⟨h8, rfl⟩ := HC2.out j v hj
        rw [Addr.add_lit, Kg.heap_cell HF1.out]
        unfold rcl
        rw [List.getElem?_toArray, Nat.zero_add, List.getElem?_append_left (by simp; omega), List.getElem?_replicate, if_pos h8]
      have HF4 : Hid (∀ v, v ∈ C1 → v.oneCell' = true) := fun v hv => by
        obtain ⟨j, hj⟩ := List.getElem?_of_mem hv
        rw [(HC2.out j v hj).2]; rfl
      have HF5 : Hid (C1.length = Nat.min n (m - n) ∧ n + C1.length ≤ (rcl z m n).length) := ⟨by rw [HCl.out, HCm.out], by rw [rcl_len hn2, HCl.out]; omega⟩
      have HF6 : Hid (Below g w' wr.drew) := HB.out.drew
      have hcI : (n : Int) + (c : Int) ≤ (m : Int) := by omega
      refine wp_region_any Kg.mixed ?_
      change wpAny _ _ _ _ _ _ _ (World.drew _)
      refine wpAny_take (i := 0) (v := .int .i64 (n : Int)) rfl (by kernel_rfl) (by kernel_rfl) (by kernel_rfl) (fun _ _ _ h => h) (Or.inl ⟨by rfl, fun w => by go_simp⟩) ?_
      change wpAny _ _ _ _ _ _ (Act.put _ (some 38) (.int .i64 (n : Int))) _
      simp only [Act.put, List.setIfInBounds_toArray, List.set_cons_zero, List.set_cons_succ]
      refine wpAny_take (i := 1) (v := .slice (some ⟨g, 0, none⟩) m m) rfl (by kernel_rfl) (by kernel_rfl) (by kernel_rfl) (fun _ _ _ h => h) (Or.inl ⟨by rfl, fun w => by go_simp⟩) ?_
      change wpAny _ _ _ _ _ _ (Act.put _ (some 39) (.slice (some ⟨g, 0, none⟩) m m)) _
      simp only [Act.put, List.setIfInBounds_toArray, List.set_cons_zero, List.set_cons_succ]
      refine wpAny_take (i := 2) (v := .int .i64 (n : Int)) rfl (by kernel_rfl) (by kernel_rfl) (by kernel_rfl) (fun _ _ _ h => h) (Or.inl ⟨by rfl, fun w => by go_simp⟩) ?_
      change wpAny _ _ _ _ _ _ (Act.put _ (some 40) (.int .i64 (n : Int))) _
      simp only [Act.put, List.setIfInBounds_toArray, List.set_cons_zero, List.set_cons_succ]
      refine wpAny_take (i := 3) (v := .slice (some ⟨g, n, none⟩) (m - n) (m - n)) rfl (by kernel_rfl) (by kernel_rfl) (by kernel_rfl) (fun _ _ _ h => h) (Or.inl ⟨by rfl, fun w => by go_simp⟩) ?_
      change wpAny _ _ _ _ _ _ (Act.put _ (some 41) (.slice (some ⟨g, n, none⟩) (m - n) (m - n))) _
      simp only [Act.put, List.setIfInBounds_toArray, List.set_cons_zero, List.set_cons_succ]
      refine wpAny_take (i := 4) (v := .slice (some ⟨g, 0, none⟩) m m) rfl (by kernel_rfl) (by kernel_rfl) (by kernel_rfl) (fun _ _ _ h => h) (Or.inl ⟨by rfl, fun w => by go_simp⟩) ?_
      change wpAny _ _ _ _ _ _ (Act.put _ (some 42) (.slice (some ⟨g, 0, none⟩) m m)) _
      simp only [Act.put, List.setIfInBounds_toArray, List.set_cons_zero, List.set_cons_succ]
      refine wpAny_take (i := 5) (v := .int .i64 (n : Int)) rfl (by kernel_rfl) (by kernel_rfl) (by kernel_rfl) (fun _ _ _ h => h) (Or.inl ⟨by rfl, fun w => by go_simp⟩) ?_
      change wpAny _ _ _ _ _ _ (Act.put _ (some 43) (.int .i64 (n : Int))) _
      simp only [Act.put, List.setIfInBounds_toArray, List.set_cons_zero, List.set_cons_succ]
      refine wpAny_take (i := 6) (v := .slice (some ⟨g, 0, none⟩) n m) rfl (by kernel_rfl) (by kernel_rfl) (by kernel_rfl) (fun _ _ _ h => h) (Or.inl ⟨by rfl, fun w => by go_simp⟩) ?_
      change wpAny _ _ _ _ _ _ (Act.put _ (some 44) (.slice (some ⟨g, 0, none⟩) n m)) _
      simp only [Act.put, List.setIfInBounds_toArray, List.set_cons_zero, List.set_cons_succ]
      refine wpAny_ready (rs := [7]) (by kernel_rfl) (by simp) (AllReady.cons rfl (fun K hK => ?_) (AllReady.nil))
      refine step_copy_splice rfl (.tmp 41) (.tmp 44) 24 24 rfl 3 Tryd.underlying24 HI.out _ _ _ _ _ _ rfl rfl g n (rcl z m n) 3 HF1.out C1 HF5.out.1 (fun _ => ⟨rfl, _, rfl, HF3.out⟩) HF5.out.2 HF4.out g w' HF6.out (Nat.le_refl _) ?_
      intro w4 hg4 hb4
      have HG4 : Hid (w4.heap[g]? = some (.cells (rcl z m (n + c)).toArray 3 (0, 0))) := by
        have h9 := hg4.out
        rw [HC1.out, rcl_splice (by omega)] at h9
        exact h9
      have HB4 : Hid (Below g w' w4) := hb4
      rw [HCl.out]
      clear hg4 hb4
      refine hK _ _ ?_
      clear hK K
      refine wpAny_ready (rs := [8]) (by kernel_rfl) (by simp) (AllReady.cons rfl (fun K hK => ?_) (AllReady.nil))
      go_simp
      refine hK _ _ ?_
      clear hK K
      refine wpAny_ready (rs := [9]) (by kernel_rfl) (by simp) (AllReady.cons rfl (fun K hK => ?_) (AllReady.nil))
      go_simp
      refine hK _ _ ?_
      clear hK K
      refine wpAny_done (by kernel_rfl) ?_ _
      have hwr : IntKind.i64.wrap ((n : Int) + (c : Int)) = ((n + c : Nat) : Int) := by
        rw [IntKind.wrap_i64]
        omega
      rw [hwr]
      go_wp2
      go_roundw
      case rel => exact ⟨n + c, by omega, by omega, rfl, HG4, HB4⟩
      case measure => simp [intOf]; omega
    · obtain rfl : n = m := by omega
      have hltI : ¬ (n : Int) < (n : Int) := by omega
      go_wp2
      go_ret
      rw [← HG.out]
      exact ⟨rfl, HR.out, HB.out⟩

end Go.Proofs.YtckgcpoheodbcaaDoor

/-
  Shortest paths: nobodies; listTo.
-/
set_option linter.unusedVariables false
set_option maxRecDepth 20000
namespace Go.Proofs.YtckgcpoheodbcaaDoor
open Go.RowKit Go.Shelf Go.Lib Go.Sort Go.Proofs.YtckgcpoheodbcaaDoor.Lp

theorem Fz.of_rcl {w : World} {g m : Nat} {z : Int} (h : w.heap[g]? = some (.cells (rcl z m m).toArray 3 (0, 0))) : Fz w g m (fun _ => z) := by
  refine ⟨_, h, by rw [List.size_toArray, rcl_len (Nat.le_refl _)], fun x hx => ?_⟩
  unfold rcl
  rw [List.getElem?_toArray, List.getElem?_append_left (by simpa using hx), List.getElem?_replicate, if_pos hx]

set_option maxHeartbeats 2000000 in
theorem nobodies_any (m : Nat) (w : World) (h1 : 1 ≤ m) (h2 : m ≤ 2000000) :
    Calls Tryd.prog 32 #[.int .i64 (m : Nat)] w fun e w' => ∃ g, e = .returned (.slice (some ⟨g, 0, none⟩) m m) ∧ w.heap.size ≤ g ∧ Fz w' g m (fun _ => -1) ∧ Below w.heap.size w w' := by
  have b1 : Below w.heap.size w (w.alloc (.cells #[.int .i64 (-1)] 3)) := Below.alloc (Below.refl _ _) (Nat.le_refl _) _
  have hc : (w.alloc (.cells #[.int .i64 (-1)] 3)).cell? ⟨w.heap.size, 0, none⟩ = some (.int .i64 (-1)) := Kg.heap_cell (heap_alloc_new w _) 0
  have hs : (w.alloc (.cells #[.int .i64 (-1)] 3)).heap.size = w.heap.size + 1 := by simp
  have q := repeat_any w.heap.size m (-1) _ hc (by rw [hs]; omega) h1 h2
  rw [hs] at q
  have HB : Hid _ := b1
  clear hc
  go_enter Tryd.func32, Tryd.ntmps32
  go_wp2_with fail
  refine q.mono ?_
  rintro e w1 ⟨rfl, hx, bb⟩
  have HF : Hid (Fz w1 (w.heap.size + 1) m (fun _ => -1)) := Fz.of_rcl hx
  have HB1 : Hid (Below w.heap.size w w1) := HB.out.trans (bb.mono (by omega))
  clear q hx bb b1 hs
  go_wp2
  go_ret
  exact ⟨_, rfl, by omega, HF.out, HB1.out⟩

end Go.Proofs.YtckgcpoheodbcaaDoor

