import Derived.Test.YtblbiikfipcbcaaGreatDoorPRa
import Derived.Test.YtblbiikfipcbcaaGreatDoorPWa
import Derived.Deep.RegionHeld3
import Derived.Laws.EntriesVeiled
/-
  Images, the reader: parts that are numbers.
-/
set_option linter.unusedVariables false
set_option maxRecDepth 20000
namespace Go.Proofs.YtblbiikfipcbcaaGreatDoor
open Go.RowKit Go.Shelf

/-- What reading a part answers: the cell ⟨b, o⟩ of a block is another one then. -/
def Cans {α : Type} (n0 R : Nat) (v : Value) (bs : List Nat) (b o t : Nat) (cs : Array Value) (w w' : World) (x : Except (Nat × Nat) (α × Nat)) (e : Ending) (V : α → Value → World → Prop) : Prop :=
  Kg.Touch [R, b] w w' ∧ match x with
    | .ok (y, r) => e = .returned (.tuple #[]) ∧ Rdr w' n0 R v bs r ∧ ∃ u, w'.heap[b]? = some (.cells (cs.setIfInBounds o u) t (0, 0)) ∧ V y u w'
    | .error (pl, c) => e = .panicked (thrown (pl : Int) (c : Int))

set_option maxHeartbeats 8000000 in
theorem rd_number {w : World} {n0 R p b o t : Nat} {v : Value} {bs : List Nat} {cs : Array Value} {z : Value}  (h : Rdr w n0 R v bs p) (hb : ∀ x, x ∈ bs → x < 256) (hB : w.heap[b]? = some (.cells cs t (0, 0))) (hz : cs[o]? = some z) (hn : n0 ≤ b) (hR : b ≠ R) :
    Calls Tryz.prog 38 #[.pointer (some ⟨R, 0, none⟩), .iface 97 (.agg #[.pointer (some ⟨b, o, none⟩)])] w fun e w' => Cans n0 R v bs b o t cs w w' (Im.number bs p) e (fun n u _ => u = .int .i64 (n : Int)) := by
  have hbl := Kg.heap_lt hB
  have hRl := Kg.heap_lt h.b
  have ta := ta_pnumber (.agg #[.pointer (some ⟨b, o, none⟩)]) w
  go_enter Tryz.func38, Tryz.ntmps38
  go_upto_region 3 with fail
  clear ta
  have b1 : Below w.heap.size w (w.alloc (.cells #[.pointer (some ⟨b, o, none⟩)] 97)) := Below.alloc (Below.refl _ _) (Nat.le_refl _) _
  have hx := heap_alloc_new w (.cells #[.pointer (some ⟨b, o, none⟩)] 97 (0, 0))
  have hs1 : (w.alloc (.cells #[.pointer (some ⟨b, o, none⟩)] 97)).heap.size = w.heap.size + 1 := by simp
  generalize w.alloc (.cells #[.pointer (some ⟨b, o, none⟩)] 97) = W at *
  have bd : Below w.heap.size w W.drew := b1.drew
  have H1 := h.below bd
  have hB1 : W.drew.heap[b]? = some (.cells cs t (0, 0)) := (bd.block b hbl).trans hB
  have hxd : W.drew.heap[w.heap.size]? = some (.cells #[.pointer (some ⟨b, o, none⟩)] 97 (0, 0)) := hx
  have hsd : W.drew.heap.size = w.heap.size + 1 := hs1
  have hC := bounded_any H1 hb
  refine wp_region_held_drew (S := (fun w' => w'.cell? ⟨w.heap.size, 0, none⟩ = some (.pointer (some ⟨b, o, none⟩)))) Kg.mixed ((Kg.heap_cell hxd 0).trans rfl) (fun hHeld => ?_)
  refine wpAnyH_take (i := 0) (v := (.pointer (some ⟨w.heap.size, 0, none⟩))) rfl (by kernel_rfl) (by kernel_rfl) (by kernel_rfl) (fun _ _ _ h => h) (Or.inl ⟨by rfl, fun wx hSw => ?_⟩) (by assumption) ?_
  · go_simp
  change wpAnyH _ _ _ _ _ _ _ (Act.put _ (some 17) (.pointer (some ⟨w.heap.size, 0, none⟩))) _
  simp only [Act.put, List.setIfInBounds_toArray, List.set_cons_zero, List.set_cons_succ]
  refine wpAnyH_take (i := 1) (v := (.pointer (some ⟨b, o, none⟩))) rfl (by kernel_rfl) (by kernel_rfl) (by kernel_rfl) (fun _ _ _ h => h) (Or.inl ⟨by rfl, fun wx hSw => ?_⟩) (by assumption) ?_
  · go_simp
  change wpAnyH _ _ _ _ _ _ _ (Act.put _ (some 18) (.pointer (some ⟨b, o, none⟩))) _
  simp only [Act.put, List.setIfInBounds_toArray, List.set_cons_zero, List.set_cons_succ]
  refine wpAnyH_take (i := 2) (v := (.pointer (some ⟨R, 0, none⟩))) rfl (by kernel_rfl) (by kernel_rfl) (by kernel_rfl) (fun _ _ _ h => h) (Or.inl ⟨by rfl, fun wx hSw => ?_⟩) (by assumption) ?_
  · go_simp
  change wpAnyH _ _ _ _ _ _ _ (Act.put _ (some 19) (.pointer (some ⟨R, 0, none⟩))) _
  simp only [Act.put, List.setIfInBounds_toArray, List.set_cons_zero, List.set_cons_succ]
  refine wpAnyH_ready (rs := [3]) (by kernel_rfl) (by simp) (AllReadyH.cons rfl (fun K hK => ?_) AllReadyH.nil)
  go_simp
  refine hC.mono ?_
  rintro e w1 ⟨t1, h1⟩
  clear hC
  have T1 : Kg.Touch [R, b] w w1 := (Kg.Touch.of_below bd _).trans (t1.mono (fun k hk => .inl (by simp only [List.mem_cons, List.not_mem_nil, or_false] at hk ⊢; exact .inl hk)))
  rcases hw : Im.number bs p with ⟨pl, c⟩ | ⟨n, r⟩
  · rw [hw] at h1
    obtain rfl : e = .panicked (thrown (pl : Int) (c : Int)) := h1
    exact ⟨rfl, T1, by rw [hw]⟩
  · rw [hw] at h1
    obtain ⟨⟨hnn, rfl⟩, hr1⟩ := h1
    have hx1 := (t1.block w.heap.size (by omega) (by simp; omega)).trans hxd
    have hB2 := (t1.block b (by omega) (by simp [hR])).trans hB1
    have hcell := Kg.heap_cell hB2 o
    rw [hz] at hcell
    have hfz := Kg.heap_frozen hB2 o
    have HW : Hid (Im.number bs p = .ok (n, r)) := hw
    refine hK.out _ _ ((Kg.heap_cell hx1 0).trans rfl) (fun hHeld3 => ?_)
    clear hK K hHeld hw
    have hHeld := hHeld3
    have hwr : IntKind.i64.wrap (n : Int) = (n : Int) := by rw [IntKind.wrap_i64]; omega
    refine wpAnyH_take (i := 4) (v := (.int .i64 (n : Int))) rfl (by kernel_rfl) (by kernel_rfl) (by kernel_rfl) (fun _ _ _ h => h) (Or.inl ⟨by rfl, fun wx hSw => ?_⟩) (by assumption) ?_
    · go_simp
    change wpAnyH _ _ _ _ _ _ _ (Act.put _ (some 21) (.int .i64 (n : Int))) _
    simp only [Act.put, List.setIfInBounds_toArray, List.set_cons_zero, List.set_cons_succ]
    refine wpAnyH_take (i := 5) (v := (.pointer (some ⟨b, o, none⟩))) rfl (by kernel_rfl) (by kernel_rfl) (by kernel_rfl) (fun _ _ _ h => h) (Or.inl ⟨by rfl, fun wx hSw => ?_⟩) (by assumption) ?_
    · go_simp
    change wpAnyH _ _ _ _ _ _ _ (Act.put _ (some 22) (.pointer (some ⟨b, o, none⟩))) _
    simp only [Act.put, List.setIfInBounds_toArray, List.set_cons_zero, List.set_cons_succ]
    refine wpAnyH_ready (rs := [6]) (by kernel_rfl) (by simp) (AllReadyH.cons rfl (fun K hK => ?_) AllReadyH.nil)
    go_simp
    have hset := Kg.heap_set hB2 o (.int .i64 (n : Int))
    have hxs : (w1.setCell ⟨b, o, none⟩ (.int .i64 (n : Int))).heap[w.heap.size]? = some (.cells #[.pointer (some ⟨b, o, none⟩)] 97 (0, 0)) := by
      rw [Below.heap_setCell _ _ _ _ (by show w.heap.size ≠ b; omega)]
      exact hx1
    refine hK.out _ _ ((Kg.heap_cell hxs 0).trans rfl) (fun hHeld4 => ?_)
    refine wpAnyH_done (by kernel_rfl) ?_ _
    have hr2 : Rdr (w1.setCell ⟨b, o, none⟩ (.int .i64 (n : Int))) n0 R v bs r := ⟨by rw [Below.heap_setCell _ _ _ _ (fun e => hR e.symm)]; exact hr1.b, hr1.l.below (Below.setCell (Below.refl _ _) hn _), hr1.lo, hr1.le, hr1.n⟩
    have HF : Hid (Kg.Touch [R, b] w (w1.setCell ⟨b, o, none⟩ (.int .i64 (n : Int)))) := T1.trans (Kg.Touch.setCell _ _ _ (by simp))
    clear hHeld hHeld3 hHeld4 hcell hfz hK K
    go_wp2
    refine bodyPost_end (v := .tuple #[]) ?_ rfl ⟨HF.out, ?_⟩
    · simp [results, Tryz.results38, go_sem]
    · rw [HW.out]
      exact ⟨rfl, hr2, _, hset, rfl⟩

set_option maxHeartbeats 8000000 in
theorem rd_handle {w : World} {n0 R p b o t : Nat} {v : Value} {bs : List Nat} {cs : Array Value} {z : Value}  (h : Rdr w n0 R v bs p) (hb : ∀ x, x ∈ bs → x < 256) (hB : w.heap[b]? = some (.cells cs t (0, 0))) (hz : cs[o]? = some z) (hn : n0 ≤ b) (hR : b ≠ R) :
    Calls Tryz.prog 38 #[.pointer (some ⟨R, 0, none⟩), .iface 98 (.agg #[.pointer (some ⟨b, o, none⟩)])] w fun e w' => Cans n0 R v bs b o t cs w w' (Im.number bs p) e (fun n u _ => u = .int .i64 ((n : Int) - 1)) := by
  have hbl := Kg.heap_lt hB
  have hRl := Kg.heap_lt h.b
  have tn_pnumber := tn_phandle_pnumber (.agg #[.pointer (some ⟨b, o, none⟩)]) w
  have ta := ta_phandle (.agg #[.pointer (some ⟨b, o, none⟩)]) w
  go_enter Tryz.func38, Tryz.ntmps38
  go_upto_region 6 with fail
  clear ta tn_pnumber
  have b1 : Below w.heap.size w (w.alloc (.cells #[.pointer (some ⟨b, o, none⟩)] 98)) := Below.alloc (Below.refl _ _) (Nat.le_refl _) _
  have hx := heap_alloc_new w (.cells #[.pointer (some ⟨b, o, none⟩)] 98 (0, 0))
  have hs1 : (w.alloc (.cells #[.pointer (some ⟨b, o, none⟩)] 98)).heap.size = w.heap.size + 1 := by simp
  generalize w.alloc (.cells #[.pointer (some ⟨b, o, none⟩)] 98) = W at *
  have bd : Below w.heap.size w W.drew := b1.drew
  have H1 := h.below bd
  have hB1 : W.drew.heap[b]? = some (.cells cs t (0, 0)) := (bd.block b hbl).trans hB
  have hxd : W.drew.heap[w.heap.size]? = some (.cells #[.pointer (some ⟨b, o, none⟩)] 98 (0, 0)) := hx
  have hsd : W.drew.heap.size = w.heap.size + 1 := hs1
  have hC := bounded_any H1 hb
  refine wp_region_held_drew (S := (fun w' => w'.cell? ⟨w.heap.size, 0, none⟩ = some (.pointer (some ⟨b, o, none⟩)))) Kg.mixed ((Kg.heap_cell hxd 0).trans rfl) (fun hHeld => ?_)
  refine wpAnyH_take (i := 0) (v := (.pointer (some ⟨w.heap.size, 0, none⟩))) rfl (by kernel_rfl) (by kernel_rfl) (by kernel_rfl) (fun _ _ _ h => h) (Or.inl ⟨by rfl, fun wx hSw => ?_⟩) (by assumption) ?_
  · go_simp
  change wpAnyH _ _ _ _ _ _ _ (Act.put _ (some 26) (.pointer (some ⟨w.heap.size, 0, none⟩))) _
  simp only [Act.put, List.setIfInBounds_toArray, List.set_cons_zero, List.set_cons_succ]
  refine wpAnyH_take (i := 1) (v := (.pointer (some ⟨b, o, none⟩))) rfl (by kernel_rfl) (by kernel_rfl) (by kernel_rfl) (fun _ _ _ h => h) (Or.inl ⟨by rfl, fun wx hSw => ?_⟩) (by assumption) ?_
  · go_simp
  change wpAnyH _ _ _ _ _ _ _ (Act.put _ (some 27) (.pointer (some ⟨b, o, none⟩))) _
  simp only [Act.put, List.setIfInBounds_toArray, List.set_cons_zero, List.set_cons_succ]
  refine wpAnyH_take (i := 2) (v := (.pointer (some ⟨R, 0, none⟩))) rfl (by kernel_rfl) (by kernel_rfl) (by kernel_rfl) (fun _ _ _ h => h) (Or.inl ⟨by rfl, fun wx hSw => ?_⟩) (by assumption) ?_
  · go_simp
  change wpAnyH _ _ _ _ _ _ _ (Act.put _ (some 28) (.pointer (some ⟨R, 0, none⟩))) _
  simp only [Act.put, List.setIfInBounds_toArray, List.set_cons_zero, List.set_cons_succ]
  refine wpAnyH_ready (rs := [3]) (by kernel_rfl) (by simp) (AllReadyH.cons rfl (fun K hK => ?_) AllReadyH.nil)
  go_simp
  refine hC.mono ?_
  rintro e w1 ⟨t1, h1⟩
  clear hC
  have T1 : Kg.Touch [R, b] w w1 := (Kg.Touch.of_below bd _).trans (t1.mono (fun k hk => .inl (by simp only [List.mem_cons, List.not_mem_nil, or_false] at hk ⊢; exact .inl hk)))
  rcases hw : Im.number bs p with ⟨pl, c⟩ | ⟨n, r⟩
  · rw [hw] at h1
    obtain rfl : e = .panicked (thrown (pl : Int) (c : Int)) := h1
    exact ⟨rfl, T1, by rw [hw]⟩
  · rw [hw] at h1
    obtain ⟨⟨hnn, rfl⟩, hr1⟩ := h1
    have hx1 := (t1.block w.heap.size (by omega) (by simp; omega)).trans hxd
    have hB2 := (t1.block b (by omega) (by simp [hR])).trans hB1
    have hcell := Kg.heap_cell hB2 o
    rw [hz] at hcell
    have hfz := Kg.heap_frozen hB2 o
    have HW : Hid (Im.number bs p = .ok (n, r)) := hw
    refine hK.out _ _ ((Kg.heap_cell hx1 0).trans rfl) (fun hHeld3 => ?_)
    clear hK K hHeld hw
    have hHeld := hHeld3
    have hwr : IntKind.i64.wrap (n : Int) = (n : Int) := by rw [IntKind.wrap_i64]; omega
    have hwr2 : IntKind.i64.wrap ((n : Int) - 1) = (n : Int) - 1 := by rw [IntKind.wrap_i64]; omega
    refine wpAnyH_take (i := 4) (v := (.int .i64 (n : Int))) rfl (by kernel_rfl) (by kernel_rfl) (by kernel_rfl) (fun _ _ _ h => h) (Or.inl ⟨by rfl, fun wx hSw => ?_⟩) (by assumption) ?_
    · go_simp
    change wpAnyH _ _ _ _ _ _ _ (Act.put _ (some 30) (.int .i64 (n : Int))) _
    simp only [Act.put, List.setIfInBounds_toArray, List.set_cons_zero, List.set_cons_succ]
    refine wpAnyH_take (i := 5) (v := (.int .i64 ((n : Int) - 1))) rfl (by kernel_rfl) (by kernel_rfl) (by kernel_rfl) (fun _ _ _ h => h) (Or.inl ⟨by rfl, fun wx hSw => ?_⟩) (by assumption) ?_
    · go_simp
    change wpAnyH _ _ _ _ _ _ _ (Act.put _ (some 31) (.int .i64 ((n : Int) - 1))) _
    simp only [Act.put, List.setIfInBounds_toArray, List.set_cons_zero, List.set_cons_succ]
    refine wpAnyH_take (i := 6) (v := (.pointer (some ⟨b, o, none⟩))) rfl (by kernel_rfl) (by kernel_rfl) (by kernel_rfl) (fun _ _ _ h => h) (Or.inl ⟨by rfl, fun wx hSw => ?_⟩) (by assumption) ?_
    · go_simp
    change wpAnyH _ _ _ _ _ _ _ (Act.put _ (some 32) (.pointer (some ⟨b, o, none⟩))) _
    simp only [Act.put, List.setIfInBounds_toArray, List.set_cons_zero, List.set_cons_succ]
    refine wpAnyH_ready (rs := [7]) (by kernel_rfl) (by simp) (AllReadyH.cons rfl (fun K hK => ?_) AllReadyH.nil)
    go_simp
    have hset := Kg.heap_set hB2 o (.int .i64 ((n : Int) - 1))
    have hxs : (w1.setCell ⟨b, o, none⟩ (.int .i64 ((n : Int) - 1))).heap[w.heap.size]? = some (.cells #[.pointer (some ⟨b, o, none⟩)] 98 (0, 0)) := by
      rw [Below.heap_setCell _ _ _ _ (by show w.heap.size ≠ b; omega)]
      exact hx1
    refine hK.out _ _ ((Kg.heap_cell hxs 0).trans rfl) (fun hHeld4 => ?_)
    refine wpAnyH_done (by kernel_rfl) ?_ _
    have hr2 : Rdr (w1.setCell ⟨b, o, none⟩ (.int .i64 ((n : Int) - 1))) n0 R v bs r := ⟨by rw [Below.heap_setCell _ _ _ _ (fun e => hR e.symm)]; exact hr1.b, hr1.l.below (Below.setCell (Below.refl _ _) hn _), hr1.lo, hr1.le, hr1.n⟩
    have HF : Hid (Kg.Touch [R, b] w (w1.setCell ⟨b, o, none⟩ (.int .i64 ((n : Int) - 1)))) := T1.trans (Kg.Touch.setCell _ _ _ (by simp))
    clear hHeld hHeld3 hHeld4 hcell hfz hK K
    go_wp2
    refine bodyPost_end (v := .tuple #[]) ?_ rfl ⟨HF.out, ?_⟩
    · simp [results, Tryz.results38, go_sem]
    · rw [HW.out]
      exact ⟨rfl, hr2, _, hset, rfl⟩

set_option maxHeartbeats 8000000 in
theorem rd_raw {w : World} {n0 R p b o t : Nat} {v : Value} {bs : List Nat} {cs : Array Value} {z : Value}  (h : Rdr w n0 R v bs p) (hb : ∀ x, x ∈ bs → x < 256) (hB : w.heap[b]? = some (.cells cs t (0, 0))) (hz : cs[o]? = some z) (hn : n0 ≤ b) (hR : b ≠ R) :
    Calls Tryz.prog 38 #[.pointer (some ⟨R, 0, none⟩), .iface 101 (.agg #[.pointer (some ⟨b, o, none⟩)])] w fun e w' => Cans n0 R v bs b o t cs w w' (Im.word bs p) e (fun n u _ => u = .int .u64 (n : Int)) := by
  have hbl := Kg.heap_lt hB
  have hRl := Kg.heap_lt h.b
  have tn_pnumber := tn_praw_pnumber (.agg #[.pointer (some ⟨b, o, none⟩)]) w
  have tn_phandle := tn_praw_phandle (.agg #[.pointer (some ⟨b, o, none⟩)]) w
  have ta := ta_praw (.agg #[.pointer (some ⟨b, o, none⟩)]) w
  go_enter Tryz.func38, Tryz.ntmps38
  go_upto_region 9 with fail
  clear ta tn_pnumber tn_phandle
  have b1 : Below w.heap.size w (w.alloc (.cells #[.pointer (some ⟨b, o, none⟩)] 101)) := Below.alloc (Below.refl _ _) (Nat.le_refl _) _
  have hx := heap_alloc_new w (.cells #[.pointer (some ⟨b, o, none⟩)] 101 (0, 0))
  have hs1 : (w.alloc (.cells #[.pointer (some ⟨b, o, none⟩)] 101)).heap.size = w.heap.size + 1 := by simp
  generalize w.alloc (.cells #[.pointer (some ⟨b, o, none⟩)] 101) = W at *
  have bd : Below w.heap.size w W.drew := b1.drew
  have H1 := h.below bd
  have hB1 : W.drew.heap[b]? = some (.cells cs t (0, 0)) := (bd.block b hbl).trans hB
  have hxd : W.drew.heap[w.heap.size]? = some (.cells #[.pointer (some ⟨b, o, none⟩)] 101 (0, 0)) := hx
  have hsd : W.drew.heap.size = w.heap.size + 1 := hs1
  have hC := rnumber_any H1 hb
  refine wp_region_held_drew (S := (fun w' => w'.cell? ⟨w.heap.size, 0, none⟩ = some (.pointer (some ⟨b, o, none⟩)))) Kg.mixed ((Kg.heap_cell hxd 0).trans rfl) (fun hHeld => ?_)
  refine wpAnyH_take (i := 0) (v := (.pointer (some ⟨w.heap.size, 0, none⟩))) rfl (by kernel_rfl) (by kernel_rfl) (by kernel_rfl) (fun _ _ _ h => h) (Or.inl ⟨by rfl, fun wx hSw => ?_⟩) (by assumption) ?_
  · go_simp
  change wpAnyH _ _ _ _ _ _ _ (Act.put _ (some 36) (.pointer (some ⟨w.heap.size, 0, none⟩))) _
  simp only [Act.put, List.setIfInBounds_toArray, List.set_cons_zero, List.set_cons_succ]
  refine wpAnyH_take (i := 1) (v := (.pointer (some ⟨b, o, none⟩))) rfl (by kernel_rfl) (by kernel_rfl) (by kernel_rfl) (fun _ _ _ h => h) (Or.inl ⟨by rfl, fun wx hSw => ?_⟩) (by assumption) ?_
  · go_simp
  change wpAnyH _ _ _ _ _ _ _ (Act.put _ (some 37) (.pointer (some ⟨b, o, none⟩))) _
  simp only [Act.put, List.setIfInBounds_toArray, List.set_cons_zero, List.set_cons_succ]
  refine wpAnyH_take (i := 2) (v := (.pointer (some ⟨R, 0, none⟩))) rfl (by kernel_rfl) (by kernel_rfl) (by kernel_rfl) (fun _ _ _ h => h) (Or.inl ⟨by rfl, fun wx hSw => ?_⟩) (by assumption) ?_
  · go_simp
  change wpAnyH _ _ _ _ _ _ _ (Act.put _ (some 38) (.pointer (some ⟨R, 0, none⟩))) _
  simp only [Act.put, List.setIfInBounds_toArray, List.set_cons_zero, List.set_cons_succ]
  refine wpAnyH_ready (rs := [3]) (by kernel_rfl) (by simp) (AllReadyH.cons rfl (fun K hK => ?_) AllReadyH.nil)
  go_simp
  refine hC.mono ?_
  rintro e w1 ⟨t1, h1⟩
  clear hC
  have T1 : Kg.Touch [R, b] w w1 := (Kg.Touch.of_below bd _).trans (t1.mono (fun k hk => .inl (by simp only [List.mem_cons, List.not_mem_nil, or_false] at hk ⊢; exact .inl hk)))
  rcases hw : Im.word bs p with ⟨pl, c⟩ | ⟨n, r⟩
  · rw [hw] at h1
    obtain rfl : e = .panicked (thrown (pl : Int) (c : Int)) := h1
    exact ⟨rfl, T1, by rw [hw]⟩
  · rw [hw] at h1
    obtain ⟨⟨hnn, rfl⟩, hr1⟩ := h1
    have hx1 := (t1.block w.heap.size (by omega) (by simp; omega)).trans hxd
    have hB2 := (t1.block b (by omega) (by simp [hR])).trans hB1
    have hcell := Kg.heap_cell hB2 o
    rw [hz] at hcell
    have hfz := Kg.heap_frozen hB2 o
    have HW : Hid (Im.word bs p = .ok (n, r)) := hw
    refine hK.out _ _ ((Kg.heap_cell hx1 0).trans rfl) (fun hHeld3 => ?_)
    clear hK K hHeld hw
    have hHeld := hHeld3
    refine wpAnyH_take (i := 4) (v := (.pointer (some ⟨b, o, none⟩))) rfl (by kernel_rfl) (by kernel_rfl) (by kernel_rfl) (fun _ _ _ h => h) (Or.inl ⟨by rfl, fun wx hSw => ?_⟩) (by assumption) ?_
    · go_simp
    change wpAnyH _ _ _ _ _ _ _ (Act.put _ (some 40) (.pointer (some ⟨b, o, none⟩))) _
    simp only [Act.put, List.setIfInBounds_toArray, List.set_cons_zero, List.set_cons_succ]
    refine wpAnyH_ready (rs := [5]) (by kernel_rfl) (by simp) (AllReadyH.cons rfl (fun K hK => ?_) AllReadyH.nil)
    go_simp
    have hset := Kg.heap_set hB2 o (.int .u64 (n : Int))
    have hxs : (w1.setCell ⟨b, o, none⟩ (.int .u64 (n : Int))).heap[w.heap.size]? = some (.cells #[.pointer (some ⟨b, o, none⟩)] 101 (0, 0)) := by
      rw [Below.heap_setCell _ _ _ _ (by show w.heap.size ≠ b; omega)]
      exact hx1
    refine hK.out _ _ ((Kg.heap_cell hxs 0).trans rfl) (fun hHeld4 => ?_)
    refine wpAnyH_done (by kernel_rfl) ?_ _
    have hr2 : Rdr (w1.setCell ⟨b, o, none⟩ (.int .u64 (n : Int))) n0 R v bs r := ⟨by rw [Below.heap_setCell _ _ _ _ (fun e => hR e.symm)]; exact hr1.b, hr1.l.below (Below.setCell (Below.refl _ _) hn _), hr1.lo, hr1.le, hr1.n⟩
    have HF : Hid (Kg.Touch [R, b] w (w1.setCell ⟨b, o, none⟩ (.int .u64 (n : Int)))) := T1.trans (Kg.Touch.setCell _ _ _ (by simp))
    clear hHeld hHeld3 hHeld4 hcell hfz hK K
    go_wp2
    refine bodyPost_end (v := .tuple #[]) ?_ rfl ⟨HF.out, ?_⟩
    · simp [results, Tryz.results38, go_sem]
    · rw [HW.out]
      exact ⟨rfl, hr2, _, hset, rfl⟩

set_option maxHeartbeats 8000000 in
theorem rd_serial {w : World} {n0 R p b o t : Nat} {v : Value} {bs : List Nat} {cs : Array Value} {z : Value} {a : Nat} (h : Rdr w n0 R v bs p) (hb : ∀ x, x ∈ bs → x < 256) (hB : w.heap[b]? = some (.cells cs t (0, 0))) (hz : cs[o]? = some z) (hn : n0 ≤ b) (hR : b ≠ R) :
    Calls Tryz.prog 38 #[.pointer (some ⟨R, 0, none⟩), .iface 103 (.agg #[.pointer (some ⟨b, o, none⟩), .int .u64 (a : Int)])] w fun e w' => Cans n0 R v bs b o t cs w w' (Im.number bs p) e (fun n u _ => u = .int .u64 (((a : Int) + (n : Int)) % 18446744073709551616)) := by
  have hbl := Kg.heap_lt hB
  have hRl := Kg.heap_lt h.b
  have tn_pnumber := tn_pserial_pnumber (.agg #[.pointer (some ⟨b, o, none⟩), .int .u64 (a : Int)]) w
  have tn_phandle := tn_pserial_phandle (.agg #[.pointer (some ⟨b, o, none⟩), .int .u64 (a : Int)]) w
  have tn_praw := tn_pserial_praw (.agg #[.pointer (some ⟨b, o, none⟩), .int .u64 (a : Int)]) w
  have ta := ta_pserial (.agg #[.pointer (some ⟨b, o, none⟩), .int .u64 (a : Int)]) w
  go_enter Tryz.func38, Tryz.ntmps38
  go_upto_region 12 with fail
  clear ta tn_pnumber tn_phandle tn_praw
  have b1 : Below w.heap.size w (w.alloc (.cells #[.pointer (some ⟨b, o, none⟩), .int .u64 (a : Int)] 103)) := Below.alloc (Below.refl _ _) (Nat.le_refl _) _
  have hx := heap_alloc_new w (.cells #[.pointer (some ⟨b, o, none⟩), .int .u64 (a : Int)] 103 (0, 0))
  have hs1 : (w.alloc (.cells #[.pointer (some ⟨b, o, none⟩), .int .u64 (a : Int)] 103)).heap.size = w.heap.size + 1 := by simp
  generalize w.alloc (.cells #[.pointer (some ⟨b, o, none⟩), .int .u64 (a : Int)] 103) = W at *
  have bd : Below w.heap.size w W.drew := b1.drew
  have H1 := h.below bd
  have hB1 : W.drew.heap[b]? = some (.cells cs t (0, 0)) := (bd.block b hbl).trans hB
  have hxd : W.drew.heap[w.heap.size]? = some (.cells #[.pointer (some ⟨b, o, none⟩), .int .u64 (a : Int)] 103 (0, 0)) := hx
  have hsd : W.drew.heap.size = w.heap.size + 1 := hs1
  have hC := bounded_any H1 hb
  refine wp_region_held_drew (S := (fun w' => w'.cell? ⟨w.heap.size, 0, none⟩ = some (.pointer (some ⟨b, o, none⟩)) ∧ w'.cell? ⟨w.heap.size, 1, none⟩ = some (.int .u64 (a : Int)))) Kg.mixed (⟨(Kg.heap_cell hxd 0).trans rfl, (Kg.heap_cell hxd 1).trans rfl⟩) (fun hHeld => ?_)
  refine wpAnyH_take (i := 0) (v := (.pointer (some ⟨w.heap.size, 0, none⟩))) rfl (by kernel_rfl) (by kernel_rfl) (by kernel_rfl) (fun _ _ _ h => h) (Or.inl ⟨by rfl, fun wx hSw => ?_⟩) (by assumption) ?_
  · obtain ⟨s0, s1⟩ := hSw; go_simp
  change wpAnyH _ _ _ _ _ _ _ (Act.put _ (some 44) (.pointer (some ⟨w.heap.size, 0, none⟩))) _
  simp only [Act.put, List.setIfInBounds_toArray, List.set_cons_zero, List.set_cons_succ]
  refine wpAnyH_take (i := 1) (v := (.pointer (some ⟨b, o, none⟩))) rfl (by kernel_rfl) (by kernel_rfl) (by kernel_rfl) (fun _ _ _ h => h) (Or.inl ⟨by rfl, fun wx hSw => ?_⟩) (by assumption) ?_
  · obtain ⟨s0, s1⟩ := hSw; go_simp
  change wpAnyH _ _ _ _ _ _ _ (Act.put _ (some 45) (.pointer (some ⟨b, o, none⟩))) _
  simp only [Act.put, List.setIfInBounds_toArray, List.set_cons_zero, List.set_cons_succ]
  refine wpAnyH_take (i := 2) (v := (.pointer (some ⟨w.heap.size, 1, none⟩))) rfl (by kernel_rfl) (by kernel_rfl) (by kernel_rfl) (fun _ _ _ h => h) (Or.inl ⟨by rfl, fun wx hSw => ?_⟩) (by assumption) ?_
  · obtain ⟨s0, s1⟩ := hSw; go_simp
  change wpAnyH _ _ _ _ _ _ _ (Act.put _ (some 46) (.pointer (some ⟨w.heap.size, 1, none⟩))) _
  simp only [Act.put, List.setIfInBounds_toArray, List.set_cons_zero, List.set_cons_succ]
  refine wpAnyH_take (i := 3) (v := (.int .u64 (a : Int))) rfl (by kernel_rfl) (by kernel_rfl) (by kernel_rfl) (fun _ _ _ h => h) (Or.inl ⟨by rfl, fun wx hSw => ?_⟩) (by assumption) ?_
  · obtain ⟨s0, s1⟩ := hSw; go_simp
  change wpAnyH _ _ _ _ _ _ _ (Act.put _ (some 47) (.int .u64 (a : Int))) _
  simp only [Act.put, List.setIfInBounds_toArray, List.set_cons_zero, List.set_cons_succ]
  refine wpAnyH_take (i := 4) (v := (.pointer (some ⟨R, 0, none⟩))) rfl (by kernel_rfl) (by kernel_rfl) (by kernel_rfl) (fun _ _ _ h => h) (Or.inl ⟨by rfl, fun wx hSw => ?_⟩) (by assumption) ?_
  · obtain ⟨s0, s1⟩ := hSw; go_simp
  change wpAnyH _ _ _ _ _ _ _ (Act.put _ (some 48) (.pointer (some ⟨R, 0, none⟩))) _
  simp only [Act.put, List.setIfInBounds_toArray, List.set_cons_zero, List.set_cons_succ]
  refine wpAnyH_ready (rs := [5]) (by kernel_rfl) (by simp) (AllReadyH.cons rfl (fun K hK => ?_) AllReadyH.nil)
  go_simp
  refine hC.mono ?_
  rintro e w1 ⟨t1, h1⟩
  clear hC
  have T1 : Kg.Touch [R, b] w w1 := (Kg.Touch.of_below bd _).trans (t1.mono (fun k hk => .inl (by simp only [List.mem_cons, List.not_mem_nil, or_false] at hk ⊢; exact .inl hk)))
  rcases hw : Im.number bs p with ⟨pl, c⟩ | ⟨n, r⟩
  · rw [hw] at h1
    obtain rfl : e = .panicked (thrown (pl : Int) (c : Int)) := h1
    exact ⟨rfl, T1, by rw [hw]⟩
  · rw [hw] at h1
    obtain ⟨⟨hnn, rfl⟩, hr1⟩ := h1
    have hx1 := (t1.block w.heap.size (by omega) (by simp; omega)).trans hxd
    have hB2 := (t1.block b (by omega) (by simp [hR])).trans hB1
    have hcell := Kg.heap_cell hB2 o
    rw [hz] at hcell
    have hfz := Kg.heap_frozen hB2 o
    have HW : Hid (Im.number bs p = .ok (n, r)) := hw
    refine hK.out _ _ (⟨(Kg.heap_cell hx1 0).trans rfl, (Kg.heap_cell hx1 1).trans rfl⟩) (fun hHeld3 => ?_)
    clear hK K hHeld hw
    have hHeld := hHeld3
    have hwr2 : IntKind.u64.wrap ((a : Int) + (n : Int)) = ((a : Int) + (n : Int)) % 18446744073709551616 := IntKind.wrap_u64 _
    refine wpAnyH_take (i := 6) (v := (.int .u64 (((a : Int) + (n : Int)) % 18446744073709551616))) rfl (by kernel_rfl) (by kernel_rfl) (by kernel_rfl) (fun _ _ _ h => h) (Or.inl ⟨by rfl, fun wx hSw => ?_⟩) (by assumption) ?_
    · obtain ⟨s0, s1⟩ := hSw; go_simp
    change wpAnyH _ _ _ _ _ _ _ (Act.put _ (some 50) (.int .u64 (((a : Int) + (n : Int)) % 18446744073709551616))) _
    simp only [Act.put, List.setIfInBounds_toArray, List.set_cons_zero, List.set_cons_succ]
    refine wpAnyH_take (i := 7) (v := (.pointer (some ⟨b, o, none⟩))) rfl (by kernel_rfl) (by kernel_rfl) (by kernel_rfl) (fun _ _ _ h => h) (Or.inl ⟨by rfl, fun wx hSw => ?_⟩) (by assumption) ?_
    · obtain ⟨s0, s1⟩ := hSw; go_simp
    change wpAnyH _ _ _ _ _ _ _ (Act.put _ (some 51) (.pointer (some ⟨b, o, none⟩))) _
    simp only [Act.put, List.setIfInBounds_toArray, List.set_cons_zero, List.set_cons_succ]
    refine wpAnyH_ready (rs := [8]) (by kernel_rfl) (by simp) (AllReadyH.cons rfl (fun K hK => ?_) AllReadyH.nil)
    go_simp
    have hset := Kg.heap_set hB2 o (.int .u64 (((a : Int) + (n : Int)) % 18446744073709551616))
    have hxs : (w1.setCell ⟨b, o, none⟩ (.int .u64 (((a : Int) + (n : Int)) % 18446744073709551616))).heap[w.heap.size]? = some (.cells #[.pointer (some ⟨b, o, none⟩), .int .u64 (a : Int)] 103 (0, 0)) := by
      rw [Below.heap_setCell _ _ _ _ (by show w.heap.size ≠ b; omega)]
      exact hx1
    refine hK.out _ _ (⟨(Kg.heap_cell hxs 0).trans rfl, (Kg.heap_cell hxs 1).trans rfl⟩) (fun hHeld4 => ?_)
    refine wpAnyH_done (by kernel_rfl) ?_ _
    have hr2 : Rdr (w1.setCell ⟨b, o, none⟩ (.int .u64 (((a : Int) + (n : Int)) % 18446744073709551616))) n0 R v bs r := ⟨by rw [Below.heap_setCell _ _ _ _ (fun e => hR e.symm)]; exact hr1.b, hr1.l.below (Below.setCell (Below.refl _ _) hn _), hr1.lo, hr1.le, hr1.n⟩
    have HF : Hid (Kg.Touch [R, b] w (w1.setCell ⟨b, o, none⟩ (.int .u64 (((a : Int) + (n : Int)) % 18446744073709551616)))) := T1.trans (Kg.Touch.setCell _ _ _ (by simp))
    clear hHeld hHeld3 hHeld4 hcell hfz hK K
    go_wp2
    refine bodyPost_end (v := .tuple #[]) ?_ rfl ⟨HF.out, ?_⟩
    · simp [results, Tryz.results38, go_sem]
    · rw [HW.out]
      exact ⟨rfl, hr2, _, hset, rfl⟩


end Go.Proofs.YtblbiikfipcbcaaGreatDoor

/-
  Images, the reader: groups and lists, whatever their parts are.
-/
set_option linter.unusedVariables false
set_option maxRecDepth 20000
namespace Go.Proofs.YtblbiikfipcbcaaGreatDoor
open Go.RowKit Go.Shelf

/-- It returns with J, or throws with E. -/
def RetOr (J : World → Prop) (E : List PanicEntry → World → Prop) (e : Ending) (w : World) : Prop := (e = .returned (.tuple #[]) ∧ J w) ∨ ∃ ch, e = .panicked ch ∧ E ch w

set_option maxHeartbeats 8000000 in
/-- Parts one behind the other. -/
theorem rd_group {R g cap : Nat} {vs : List Value} (J : Nat → World → Prop) (E : List PanicEntry → World → Prop) (hn : vs.length ≤ 100) (hcap : vs.length ≤ cap)
    (hc : ∀ (i : Nat) x w, vs[i]? = some x → J i w → w.cell? ⟨g, i, none⟩ = some x)
    (hs : ∀ (i : Nat) x w, vs[i]? = some x → J i w → Calls Tryz.prog 38 #[.pointer (some ⟨R, 0, none⟩), x] w fun e w' => RetOr (J (i + 1)) E e w')
    (w : World) (h0 : J 0 w) :
    Calls Tryz.prog 38 #[.pointer (some ⟨R, 0, none⟩), .iface 108 (.slice (some ⟨g, 0, none⟩) vs.length cap)] w fun e w' => RetOr (J vs.length) E e w' := by
  have H0 : Hid (J 0 w) := h0
  have Hc : Hid (∀ (i : Nat) x w, vs[i]? = some x → J i w → w.cell? ⟨g, i, none⟩ = some x) := hc
  have Hs : Hid (∀ (i : Nat) x w, vs[i]? = some x → J i w → Calls Tryz.prog 38 #[.pointer (some ⟨R, 0, none⟩), x] w fun e w' => RetOr (J (i + 1)) E e w') := hs
  have tn1 := tn_pgroup_pnumber (.slice (some ⟨g, 0, none⟩) vs.length cap) w
  have tn2 := tn_pgroup_phandle (.slice (some ⟨g, 0, none⟩) vs.length cap) w
  have tn3 := tn_pgroup_praw (.slice (some ⟨g, 0, none⟩) vs.length cap) w
  have tn4 := tn_pgroup_pserial (.slice (some ⟨g, 0, none⟩) vs.length cap) w
  have tn5 := tn_pgroup_plist (.slice (some ⟨g, 0, none⟩) vs.length cap) w
  have ta := ta_pgroup (.slice (some ⟨g, 0, none⟩) vs.length cap) w
  clear h0 hc hs
  go_enter Tryz.func38, Tryz.ntmps38
  go_wp2
  clear tn1 tn2 tn3 tn4 tn5 ta
  go_loopw [75] (fun v75 wr => ∃ k : Nat, k ≤ vs.length ∧ v75 = .int .i64 k ∧ Hid (J k wr)) (fun v75 _ => vs.length - (intOf v75).toNat)
  case atStart => exact ⟨0, Nat.zero_le _, rfl, H0⟩
  case round =>
    obtain ⟨k, hk, rfl, HJ⟩ := hrel
    by_cases hkl : k < vs.length
    · have hkI : (k : Int) < (vs.length : Int) := by omega
      have hz : vs[k]? = some (vs[k]'hkl) := List.getElem?_eq_getElem hkl
      generalize vs[k]'hkl = x at hz
      have hcx := Hc.out k x wr hz HJ.out
      have hC := Hs.out k x wr hz HJ.out
      clear hz
      go_wp2_with fail
      refine hC.mono ?_
      rintro e w5 (⟨rfl, hj⟩ | ⟨ch, rfl, he⟩)
      · have HJ5 : Hid (J (k + 1) w5) := hj
        clear hC hj hcx
        go_wp2
        go_roundw
        case rel => exact ⟨k + 1, by omega, by go_num, HJ5⟩
        case measure => simp [intOf]; omega
      · exact ⟨rfl, .inr ⟨ch, rfl, he⟩⟩
    · have hkI : ¬ (k : Int) < (vs.length : Int) := by omega
      have HJ9 : Hid (J vs.length wr) := by
        have := HJ.out
        rw [show k = vs.length by omega] at this
        exact this
      clear HJ
      go_wp2
      refine bodyPost_end (v := .tuple #[]) ?_ rfl (.inl ⟨rfl, HJ9.out⟩)
      simp [results, Tryz.results38, go_sem]

set_option maxHeartbeats 8000000 in
/-- How many there are, and these. -/
theorem rd_list {w : World} {R b c c2 Fe Fg : Nat} {cnt : Int} (J G : World → Nat → Nat → World → Prop) (H : World → Nat → Nat → Value → World → Prop) (E : List PanicEntry → World → Prop) (hR : R < w.heap.size) (hb : b < w.heap.size)
    (entE : ∀ args w, (callFunc Fe args).run Tryz.prog w = .ok (.enter Fe args) w) (entG : ∀ args w, (callFunc Fg args).run Tryz.prog w = .ok (.enter Fg args) w)
    (h0 : ∀ W, Below w.heap.size w W → Calls Tryz.prog 49 #[.pointer (some ⟨R, 0, none⟩)] W fun e w' => (∃ N : Nat, N ≤ 1000000000000 ∧ e = .returned (.int .i64 (N : Int)) ∧ J W N 0 w') ∨ ∃ ch, e = .panicked ch ∧ E ch w')
    (hJ : ∀ W N i w', J W N i w' → Kg.Touch [R, b] W w') (hG : ∀ W N i w', G W N i w' → Kg.Touch [R, b] W w')
    (h1 : ∀ W N i w', i < N → J W N i w' → Calls Tryz.prog Fg #[.pointer (some ⟨c2, 0, none⟩)] w' fun e w'' => e = .returned (.tuple #[]) ∧ G W N i w'')
    (h2 : ∀ W N i w', G W N i w' → Calls Tryz.prog Fe #[.int .i64 (i : Int), .pointer (some ⟨c, 0, none⟩)] w' fun e w'' => ∃ v, e = .returned v ∧ H W N i v w'')
    (h3 : ∀ W N i v w', H W N i v w' → Calls Tryz.prog 38 #[.pointer (some ⟨R, 0, none⟩), v] w' fun e w'' => RetOr (J W N (i + 1)) E e w'') :
    Calls Tryz.prog 38 #[.pointer (some ⟨R, 0, none⟩), .iface 106 (.agg #[.int .i64 cnt, .func (.func Fe) #[] #[.pointer (some ⟨c, 0, none⟩)], .func (.func Fg) #[] #[.pointer (some ⟨c2, 0, none⟩)]])] w
      fun e w' => RetOr (fun w' => ∃ W, Below w.heap.size w W ∧ ∃ N, J W N N w') E e w' := by
  have H0 : Hid (∀ W, Below w.heap.size w W → Calls Tryz.prog 49 #[.pointer (some ⟨R, 0, none⟩)] W fun e w' => (∃ N : Nat, N ≤ 1000000000000 ∧ e = .returned (.int .i64 (N : Int)) ∧ J W N 0 w') ∨ ∃ ch, e = .panicked ch ∧ E ch w') := h0
  have HJ' : Hid (∀ W N i w', J W N i w' → Kg.Touch [R, b] W w') := hJ
  have HG' : Hid (∀ W N i w', G W N i w' → Kg.Touch [R, b] W w') := hG
  have H1 : Hid (∀ W N i w', i < N → J W N i w' → Calls Tryz.prog Fg #[.pointer (some ⟨c2, 0, none⟩)] w' fun e w'' => e = .returned (.tuple #[]) ∧ G W N i w'') := h1
  have H2 : Hid (∀ W N i w', G W N i w' → Calls Tryz.prog Fe #[.int .i64 (i : Int), .pointer (some ⟨c, 0, none⟩)] w' fun e w'' => ∃ v, e = .returned v ∧ H W N i v w'') := h2
  have H3 : Hid (∀ W N i v w', H W N i v w' → Calls Tryz.prog 38 #[.pointer (some ⟨R, 0, none⟩), v] w' fun e w'' => RetOr (J W N (i + 1)) E e w'') := h3
  have tn1 := tn_plist_pnumber (.agg #[.int .i64 cnt, .func (.func Fe) #[] #[.pointer (some ⟨c, 0, none⟩)], .func (.func Fg) #[] #[.pointer (some ⟨c2, 0, none⟩)]]) w
  have tn2 := tn_plist_phandle (.agg #[.int .i64 cnt, .func (.func Fe) #[] #[.pointer (some ⟨c, 0, none⟩)], .func (.func Fg) #[] #[.pointer (some ⟨c2, 0, none⟩)]]) w
  have tn3 := tn_plist_praw (.agg #[.int .i64 cnt, .func (.func Fe) #[] #[.pointer (some ⟨c, 0, none⟩)], .func (.func Fg) #[] #[.pointer (some ⟨c2, 0, none⟩)]]) w
  have tn4 := tn_plist_pserial (.agg #[.int .i64 cnt, .func (.func Fe) #[] #[.pointer (some ⟨c, 0, none⟩)], .func (.func Fg) #[] #[.pointer (some ⟨c2, 0, none⟩)]]) w
  have ta := ta_plist (.agg #[.int .i64 cnt, .func (.func Fe) #[] #[.pointer (some ⟨c, 0, none⟩)], .func (.func Fg) #[] #[.pointer (some ⟨c2, 0, none⟩)]]) w
  clear h0 hJ hG h1 h2 h3
  go_enter Tryz.func38, Tryz.ntmps38
  go_upto_region 15 with fail
  clear tn1 tn2 tn3 tn4 ta
  have hb1 : Below w.heap.size w (w.alloc (.cells #[.int .i64 cnt, .func (.func Fe) #[] #[.pointer (some ⟨c, 0, none⟩)], .func (.func Fg) #[] #[.pointer (some ⟨c2, 0, none⟩)]] 106)) := Below.alloc (Below.refl _ _) (Nat.le_refl _) _
  have hx := heap_alloc_new w (.cells #[.int .i64 cnt, .func (.func Fe) #[] #[.pointer (some ⟨c, 0, none⟩)], .func (.func Fg) #[] #[.pointer (some ⟨c2, 0, none⟩)]] 106 (0, 0))
  have hws : (w.alloc (.cells #[.int .i64 cnt, .func (.func Fe) #[] #[.pointer (some ⟨c, 0, none⟩)], .func (.func Fg) #[] #[.pointer (some ⟨c2, 0, none⟩)]] 106)).heap.size = w.heap.size + 1 := by simp
  have HB1 : Hid (Below w.heap.size w (w.alloc (.cells #[.int .i64 cnt, .func (.func Fe) #[] #[.pointer (some ⟨c, 0, none⟩)], .func (.func Fg) #[] #[.pointer (some ⟨c2, 0, none⟩)]] 106))) := hb1
  generalize w.alloc (.cells #[.int .i64 cnt, .func (.func Fe) #[] #[.pointer (some ⟨c, 0, none⟩)], .func (.func Fg) #[] #[.pointer (some ⟨c2, 0, none⟩)]] 106) = W at *
  have HX : Hid (∀ w', Kg.Touch [R, b] W w' → w'.cell? ⟨w.heap.size, 1, none⟩ = some (.func (.func Fe) #[] #[.pointer (some ⟨c, 0, none⟩)]) ∧ w'.cell? ⟨w.heap.size, 2, none⟩ = some (.func (.func Fg) #[] #[.pointer (some ⟨c2, 0, none⟩)])) := fun w' t => by
    have h := (t.block w.heap.size (by omega) (by simp; omega)).trans hx
    exact ⟨(Kg.heap_cell h 1).trans rfl, (Kg.heap_cell h 2).trans rfl⟩
  have hC := H0.out W hb1
  clear hb1 hx
  go_wp2_with fail
  refine hC.mono ?_
  rintro e w1 (⟨N, hN, rfl, hj⟩ | ⟨ch, rfl, he⟩)
  · have HJ0 : Hid (J W N 0 w1) := hj
    clear hC hj
    go_wp2
    go_loopw [57] (fun v57 wr => ∃ k : Nat, k ≤ N ∧ v57 = .int .i64 k ∧ Hid (J W N k wr)) (fun v57 _ => N - (intOf v57).toNat)
    case atStart => exact ⟨0, Nat.zero_le _, rfl, HJ0⟩
    case round =>
      obtain ⟨k, hk, rfl, HJ⟩ := hrel
      by_cases hkl : k < N
      · have hkI : (k : Int) < (N : Int) := by omega
        have hg := (HX.out wr (HJ'.out _ _ _ _ HJ.out)).2
        have hC := H1.out W N k wr hkl HJ.out
        go_wp2_with fail
        refine hC.mono ?_
        rintro e w3 ⟨rfl, hg3⟩
        have HG3 : Hid (G W N k w3) := hg3
        clear hC hg3 hg
        have hf := (HX.out w3 (HG'.out _ _ _ _ HG3.out)).1
        have hC := H2.out W N k w3 HG3.out
        go_wp2_with fail
        refine hC.mono ?_
        rintro e w4 ⟨v4, rfl, hh4⟩
        have hC := H3.out W N k v4 w4 hh4
        clear hh4 hf
        go_wp2_with fail
        refine hC.mono ?_
        rintro e w5 (⟨rfl, hj⟩ | ⟨ch, rfl, he⟩)
        · have HJ5 : Hid (J W N (k + 1) w5) := hj
          clear hC hj
          go_wp2
          go_roundw
          case rel => exact ⟨k + 1, by omega, by go_num, HJ5⟩
          case measure => simp [intOf]; omega
        · exact ⟨rfl, .inr ⟨ch, rfl, he⟩⟩
      · have hkI : ¬ (k : Int) < (N : Int) := by omega
        have HJ9 : Hid (J W N N wr) := by
          have := HJ.out
          rw [show k = N by omega] at this
          exact this
        clear HJ
        go_wp2
        refine bodyPost_end (v := .tuple #[]) ?_ rfl (.inl ⟨rfl, W, HB1.out, N, HJ9.out⟩)
        simp [results, Tryz.results38, go_sem]
  · exact ⟨rfl, .inr ⟨ch, rfl, he⟩⟩

end Go.Proofs.YtblbiikfipcbcaaGreatDoor

