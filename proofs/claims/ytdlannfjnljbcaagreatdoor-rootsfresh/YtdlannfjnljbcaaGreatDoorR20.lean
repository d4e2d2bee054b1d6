/-
  All.
-/
import Derived.Test.YtdlannfjnljbcaaGreatDoorR19
set_option linter.unusedVariables false
namespace Go.Proofs.YtdlannfjnljbcaaGreatDoor
open Go.RowKit

set_option maxHeartbeats 1000000 in
theorem keep_core (B base : Nat) (x : Int) (v : Value) (xs : List Int) (w : World) (hh : w.heap[B]? = some (.cells #[v] 74 (0, 0))) (hr : w.ownsRow base 3 1 v xs.length (ints xs)) (hbase : base ≤ w.heap.size) (hlen : xs.length < 8796093022208) :
    Calls Tryz.prog 28 #[.pointer (some ⟨B, 0, none⟩), .int .i64 x] w fun e w' => e = .returned (.int .i64 x) ∧
      ∃ v' w1, w' = w1.setCell ⟨B, 0, none⟩ v' ∧ w1.ownsRow base 3 1 v' (xs.length + 1) (ints xs ++ [.int .i64 x]) ∧ (w.alloc (.cells #[.int .i64 x] 3)).grownBy w1 v.ownBlock ∧ (v'.ownBlock = v.ownBlock ∨ v'.ownBlock = some (w.heap.size + 1)) := by
  have hc0 := heap_cell hh 0
  simp only [List.getElem?_toArray, List.getElem?_cons_zero] at hc0
  have hf0 := heap_frozen hh 0
  have hbl := heap_lt hh
  have hne : some B ≠ v.ownBlock := row_ne hh hr
  obtain ⟨i0, hi, hz0, hz1, hz2⟩ := info_parts Tryz.infoInt
  clear hh
  go_enter Tryz.func28, Tryz.ntmps28
  go_wp2_with (at_builtin; refine wpList_append_own_at _ rfl _ _ 33 rfl base 3 i0 (.int .i64 0) 1 8 Tryz.underlying33 hi hz0 hz1 hz2 rfl (by decide) _ _ _ rfl (hr.alloc _) ⟨w.heap.size, 0, none⟩ 1 1 [.int .i64 x] rfl rfl (cell_one_new _ _ _) (by simp [Value.oneCell']) (by simp [maxLen]; omega) (by omega) (by simp; omega) ?_)
  intro v' w1 hown' hgrow _ hat
  obtain ⟨g', cap', rfl⟩ := ownsRow_succ hown'
  have hcw : w1.cell? ⟨B, 0, none⟩ = some v := hgrow.cell (a := ⟨B, 0, none⟩) ((World.grownBy_alloc w _ none).cell (a := ⟨B, 0, none⟩) hc0 (by simp)) hne
  have hfw : w1.frozen? ⟨B, 0, none⟩ = false := by
    rw [World.frozen?_of_block (w := w.alloc (.cells #[.int .i64 x] 3)) (hgrow.block B (by simp; omega) hne), World.frozen?_of_block (w := w) (Below.heap_alloc _ _ B hbl)]
    exact hf0
  go_wp2
  go_ret
  exact ⟨rfl, _, w1, rfl, hown', hgrow, by simpa using hat⟩

/-- What All knows between two roots: its list lies in block B. -/
structure JA (w0 : World) (F : List Nat) (B : Nat) (X : List Nat) (pre : List Int) (W : World) : Prop where
  li : ∃ v, W.heap[B]? = some (.cells #[v] 74 (0, 0)) ∧ W.ownsRow w0.heap.size 3 1 v pre.length (ints pre) ∧ ∀ k, v.ownBlock = some k → k ∉ X
  bx : B ∉ X
  xs : ∀ k, k ∈ X → k ∈ F ∨ w0.heap.size ≤ k
  xl : ∀ k, k ∈ X → k < W.heap.size
  tt : Touch F w0 W

theorem JA.keep {w0 : World} {F : List Nat} {B : Nat} {X : List Nat} {pre : List Int} {W W' : World} (h : JA w0 F B X pre W) (ht : Touch X W W') : JA w0 F B X pre W' := by
  obtain ⟨v, hb, hr, hv⟩ := h.li
  exact ⟨⟨v, (ht.block B (heap_lt hb) h.bx).trans hb, own_keep (k := 0) hr (fun k e => ht.block k (hr.lt k e).2 (hv k e)), hv⟩, h.bx, h.xs, fun k hk => Nat.lt_of_lt_of_le (h.xl k hk) ht.size, h.tt.then ht h.xs⟩

theorem JA.more {w0 : World} {F : List Nat} {B : Nat} {X : List Nat} {pre : List Int} {W : World} (h : JA w0 F B X pre W) (o : Obj) : JA w0 F B (W.heap.size :: X) pre (W.alloc o) := by
  obtain ⟨v, hb, hr, hv⟩ := h.li
  refine ⟨⟨v, (Below.heap_alloc W _ B (heap_lt hb)).trans hb, hr.alloc _, fun k e hk => ?_⟩, fun hk => ?_, fun k hk => ?_, fun k hk => ?_, h.tt.trans (Touch.alloc _ _ _)⟩
  · rcases List.mem_cons.1 hk with rfl | hk
    · have := (hr.lt _ e).2; omega
    · exact hv k e hk
  · rcases List.mem_cons.1 hk with rfl | hk
    · have := heap_lt hb; omega
    · exact h.bx hk
  · rcases List.mem_cons.1 hk with rfl | hk
    · exact .inr h.tt.size
    · exact h.xs k hk
  · rcases List.mem_cons.1 hk with rfl | hk
    · simp
    · have := h.xl k hk; simp; omega

theorem JA.step {w0 : World} {F : List Nat} {B : Nat} {X : List Nat} {pre : List Int} {W w1 : World} {v v' : Value} {x : Int} (h : JA w0 F B X pre W) (hBn : w0.heap.size ≤ B) (hb : W.heap[B]? = some (.cells #[v] 74 (0, 0))) (hr : W.ownsRow w0.heap.size 3 1 v pre.length (ints pre)) (hv : ∀ k, v.ownBlock = some k → k ∉ X)
    (hown : w1.ownsRow w0.heap.size 3 1 v' (pre.length + 1) (ints pre ++ [.int .i64 x])) (hgrow : (W.alloc (.cells #[.int .i64 x] 3)).grownBy w1 v.ownBlock) (hat : v'.ownBlock = v.ownBlock ∨ v'.ownBlock = some (W.heap.size + 1)) :
    JA w0 F B X (pre ++ [x]) (w1.setCell ⟨B, 0, none⟩ v') ∧ (∀ k, k ∈ X → (w1.setCell ⟨B, 0, none⟩ v').heap[k]? = W.heap[k]?) ∧ W.heap.size ≤ (w1.setCell ⟨B, 0, none⟩ v').heap.size := by
  have hne : some B ≠ v.ownBlock := row_ne hb hr
  have hb1 : w1.heap[B]? = some (.cells #[v] 74 (0, 0)) := by
    rw [hgrow.block B (by have := heap_lt hb; simp; omega) hne]; exact (Below.heap_alloc W _ B (heap_lt hb)).trans hb
  have hne' : some B ≠ v'.ownBlock := row_ne hb1 hown
  have ta : Touch (B :: v.ownBlock.toList) W (w1.setCell ⟨B, 0, none⟩ v') := ((Touch.alloc _ _ _).trans (Touch.grown hgrow (fun k hk => by simp [hk]))).trans (Touch.setCell _ _ _ (by simp))
  have hx : ∀ k, k ∈ X → (w1.setCell ⟨B, 0, none⟩ v').heap[k]? = W.heap[k]? := fun k hk => ta.block k (h.xl k hk) (fun hm => by
    rcases List.mem_cons.1 hm with rfl | hm
    · exact h.bx hk
    · exact hv k (by simpa using hm) hk)
  refine ⟨⟨⟨v', ?_, ?_, fun k e hk => ?_⟩, h.bx, h.xs, fun k hk => Nat.lt_of_lt_of_le (h.xl k hk) ta.size, h.tt.then ta (fun k hk => .inr ?_)⟩, hx, ta.size⟩
  · rw [heap_set hb1]; rfl
  · have := ownsRow_setOther hown (a := ⟨B, 0, none⟩) hne' v'
    simpa using this
  · rcases hat with e2 | e2
    · exact hv k (e2 ▸ e) hk
    · rw [e2] at e; simp only [Option.some.injEq] at e; have := h.xl k hk; omega
  · rcases List.mem_cons.1 hk with rfl | hk
    · exact hBn
    · exact (hr.lt k (by simpa using hk)).1

theorem visA (w0 : World) (F : List Nat) (B : Nat) (hB : w0.heap.size ≤ B) : Vis 28 (.pointer (some ⟨B, 0, none⟩)) (fun _ x => x) (JA w0 F B) 8796093022208 := by
  refine ⟨enters_of Tryz.func28 (by kernel_rfl) rfl, fun X pre W W' h ht => h.keep ht, fun X pre W o h => h.more o, fun X pre x W h hx hm => ?_⟩
  obtain ⟨v, hb, hr, hv⟩ := h.li
  refine (keep_core B w0.heap.size x v pre W hb hr h.tt.size hm).mono ?_
  rintro e W' ⟨rfl, v', w1, rfl, hown, hgrow, hat⟩
  exact ⟨rfl, h.step hB hb hr hv hown hgrow hat⟩

set_option maxHeartbeats 1000000 in
theorem all_walk (b : Nat) (w : World) (R : World → Prop) (hb : b ≠ w.heap.size)
    (he : Calls Tryz.prog 27 #[.pointer (some ⟨b, 0, none⟩), .func (.func 28) #[.pointer (some ⟨w.heap.size, 0, none⟩)] #[]] (w.alloc (.cells #[.slice none 0 0] 74)) fun e w' => e = .returned (.tuple #[]) ∧ R w')
    (hR : ∀ w', R w' → ∃ v, w'.cell? ⟨w.heap.size, 0, none⟩ = some v) :
    Calls Tryz.prog 8 #[.pointer (some ⟨b, 0, none⟩)] w fun e w' => R w' ∧ ∃ v, e = .returned v ∧ w'.cell? ⟨w.heap.size, 0, none⟩ = some v := by
  have HR : Hid (∀ w', R w' → ∃ v, w'.cell? ⟨w.heap.size, 0, none⟩ = some v) := hR
  clear hR
  go_enter Tryz.func8, Tryz.ntmps8
  go_wp2_with fail
  refine he.mono ?_
  rintro e w1 ⟨rfl, hR1⟩
  obtain ⟨v, hv⟩ := HR.out w1 hR1
  clear he HR
  go_wp2
  go_ret
  exact ⟨hR1, v, rfl, hv⟩

theorem all_any (base b N : Nat) (S : Sta) (F : List Nat) (w : World) (H : Rts w base b N S F) (hO : S.Ok) (hN : N < 8796092982208) :
    Calls Tryz.prog 8 #[.pointer (some ⟨b, 0, none⟩)] w fun e w' => ∃ v, e = .returned v ∧ w'.ownsRow w.heap.size 3 1 v S.all.length (ints S.all) ∧ Rts w' base b N S F ∧ Touch F w w' := by
  obtain ⟨g, h, q, FQ, vs, H, rfl⟩ := H
  have H1 : Rt (w.alloc (.cells #[.slice none 0 0] 74)) base b g h q N FQ vs S := H.touch (Touch.alloc [] _ _) (fun k _ h => by cases h)
  have hj : JA w (fp b g h FQ S.T vs) w.heap.size (fp b g h FQ S.T vs) [] (w.alloc (.cells #[.slice none 0 0] 74)) := by
    refine ⟨⟨_, heap_alloc_new w _, World.ownsRow_nil _ _ _ _, fun k e => by simp [Value.ownBlock] at e⟩, fun hk => ?_, fun k hk => .inl hk, fun k hk => ?_, Touch.alloc _ _ _⟩
    · have := (H.mem _ hk).2; omega
    · have := (H.mem _ hk).2; simp; omega
  have he := each_vis (visA w (fp b g h FQ S.T vs) w.heap.size (Nat.le_refl _)) base b g h q N FQ vs S (fp b g h FQ S.T vs) _ H1 hO hj (fun k hk => hk) (fun k hk => by have := (H.mem _ hk).2; simp; omega) (by omega) (by omega)
  refine (all_walk b w _ (by have := heap_lt H.own; omega) he ?_).mono ?_
  · rintro w' ⟨-, ⟨X', hJ⟩, -⟩
    obtain ⟨v, hb, -⟩ := hJ.li
    exact ⟨v, by have := heap_cell hb 0; simpa using this⟩
  · rintro e w' ⟨⟨hR, ⟨X', hJ⟩, -⟩, v, rfl, hc⟩
    obtain ⟨v', hb, hr, -⟩ := hJ.li
    have : v = v' := by
      have h2 := heap_cell hb 0
      rw [hc] at h2
      simpa using h2
    subst this
    rw [vis_same] at hR
    exact ⟨v, rfl, hr, ⟨g, h, q, FQ, vs, hR, rfl⟩, hJ.tt⟩

end Go.Proofs.YtdlannfjnljbcaaGreatDoor
