import Derived.Test.YtbgnagjhkfkekaaGreatDoorPMb
import Derived.Test.YtbgnagjhkfkekaaGreatDoorPWa
/-
  WeakRegisters: a registry in memory: New, List.
-/
set_option linter.unusedVariables false
set_option maxRecDepth 20000
namespace Go.Proofs.YtbgnagjhkfkekaaGreatDoor
open Go.RowKit Go.Shelf

theorem touch_mk {F : List Nat} {w w' : World} (h : Mk.Touch F w w') : Touch F w w' := ⟨h.os, h.tape, h.output, h.size, h.block⟩
theorem Touch.mk_ {F : List Nat} {w w' : World} (h : Touch F w w') : Mk.Touch F w w' := ⟨h.os, h.tape, h.output, h.size, h.block⟩

/-- A registry: its arena's block, its list, its marks (n words): a mark at each of the list's addresses. -/
structure Rg (w : World) (n1 rb ab : Nat) (lv : Value) (l : List Int) (mb mg n : Nat) (M : Nat → Bool) : Prop where
  own : w.heap[rb]? = some (.cells #[.pointer (some ⟨ab, 0, none⟩), lv, .pointer (some ⟨mb, 0, none⟩)] 95 (0, 0))
  row : w.ownsRow n1 3 1 lv l.length (ints l)
  mp : Mk.Mp w mb mg n M
  mem : ∀ a : Nat, a < n → (M a = true ↔ (a : Int) ∈ l)
  lr : n1 ≤ rb
  lm : n1 ≤ mb
  lg : n1 ≤ mg
  rm : rb ≠ mb
  rg : rb ≠ mg

/-- The list's block is no other one. -/
theorem Rg.apart {w : World} {n1 rb ab mb mg n : Nat} {lv : Value} {l : List Int} {M : Nat → Bool} (H : Rg w n1 rb ab lv l mb mg n M) (q : Nat) (hq : lv.ownBlock = some q) : q ≠ mb ∧ q ≠ mg := by
  have h9 : ∃ cs, w.heap[q]? = some (.cells cs 3 (0, 0)) := by
    rcases H.row.2 with ⟨e, _⟩ | ⟨g, cap, cur, e, _, hg, _⟩
    · rw [e] at hq; simp [Value.ownBlock] at hq
    · rw [e] at hq
      simp [Value.ownBlock] at hq
      subst hq
      exact ⟨_, hg⟩
  obtain ⟨cs, hc⟩ := h9
  obtain ⟨c1, h1, -, -⟩ := H.mp.own
  obtain ⟨c2, h2, -, -⟩ := H.mp.row
  refine ⟨fun e => ?_, fun e => ?_⟩
  · subst e
    rw [hc] at h1
    simp at h1
  · subst e
    rw [hc] at h2
    simp at h2

section
variable {w w' : World} {n1 rb ab mb mg n : Nat} {lv : Value} {l : List Int} {M : Nat → Bool}

theorem Rg.lt (H : Rg w n1 rb ab lv l mb mg n M) : rb < w.heap.size := (Array.getElem?_eq_some_iff.1 H.own).1
theorem Rg.cell (H : Rg w n1 rb ab lv l mb mg n M) (j : Nat) : w.cell? ⟨rb, j, none⟩ = (#[.pointer (some ⟨ab, 0, none⟩), lv, .pointer (some ⟨mb, 0, none⟩)] : Array Value)[j]? := cell_of_row _ _ j _ _ _ H.own

theorem Rg.touch (H : Rg w n1 rb ab lv l mb mg n M) {F : List Nat} (t : Touch F w w') (h1 : rb ∉ F) (h2 : mb ∉ F) (h3 : mg ∉ F) (h4 : ∀ q, lv.ownBlock = some q → q ∉ F) : Rg w' n1 rb ab lv l mb mg n M :=
  ⟨(t.block rb H.lt h1).trans H.own, row_keep H.row (fun q hq => t.block q (row_lt H.row q hq) (h4 q hq)), H.mp.touch t.mk_ h2 h3, H.mem, H.lr, H.lm, H.lg, H.rm, H.rg⟩

theorem Rg.below (H : Rg w n1 rb ab lv l mb mg n M) (b : Below w.heap.size w w') : Rg w' n1 rb ab lv l mb mg n M :=
  H.touch (Touch.of_below b []) (by simp) (by simp) (by simp) (by simp)

set_option maxHeartbeats 400000 in
/-- List. -/
theorem wList_any (H : Rg w n1 rb ab lv l mb mg n M) (hl : l.length ≤ 1048576) :
    Calls Tryz.prog 11 #[.pointer (some ⟨rb, 0, none⟩)] w fun e w' => ∃ v', e = .returned v' ∧ w'.ownsRow w.heap.size 3 1 v' l.length (ints l) ∧ Below w.heap.size w w' := by
  have k1 : w.cell? ⟨rb, 1, none⟩ = some lv := H.cell 1
  have hc := clone_own n1 l.length lv l w H.row (by omega)
  obtain ⟨a0, c0, rfl⟩ := own_sl H.row
  clear H
  go_enter Tryz.func11, Tryz.ntmps11
  go_wp2_with fail
  refine hc.mono ?_
  rintro e w2 ⟨v', rfl, hr, b2⟩
  have HE : Hid (w2.ownsRow w.heap.size 3 1 v' l.length (ints l) ∧ Below w.heap.size w w2) := ⟨hr, b2⟩
  obtain ⟨a1, c1, rfl⟩ := own_sl hr
  clear hc hr b2
  go_wp2
  go_ret
  exact ⟨_, rfl, HE.out.1, HE.out.2⟩

/-- A mark at none of a list's. -/
theorem Rg.start (h : w.heap[rb]? = some (.cells #[.pointer (some ⟨ab, 0, none⟩), .slice none 0 0, .pointer (some ⟨mb, 0, none⟩)] 95 (0, 0))) (hm : Mk.Mp w mb mg n (fun _ => false)) (lr : n1 ≤ rb) (lm : n1 ≤ mb) (lg : n1 ≤ mg) (rm : rb ≠ mb) (rg : rb ≠ mg) : Rg w n1 rb ab (.slice none 0 0) [] mb mg n (fun _ => false) :=
  ⟨h, World.ownsRow_nil _ _ _ _, hm, fun a _ => by simp, lr, lm, lg, rm, rg⟩

set_option maxHeartbeats 400000 in
/-- New. -/
theorem wNew_any {b g : Nat} {c : Cfg} {x : Tps} {sw : Bool} {ws : Nat → Int} (hA : Ar w b g c x sw ws) (N : Nat) (hN : c.words = N) (hNb : N ≤ 1048576) :
    Calls Tryz.prog 6 #[.pointer (some ⟨b, 0, none⟩)] w fun e w' => ∃ rb mb mg, e = .returned (.pointer (some ⟨rb, 0, none⟩)) ∧ Rg w' w.heap.size rb b (.slice none 0 0) [] mb mg N (fun _ => false) ∧ Below w.heap.size w w' := by
  have hb := bounds_any b g c x sw ws 4 w hA
  have e4 : bhd c 4 = c.words := by
    have h1 : ((4 : Int) = 1) = False := by decide
    have h2 : ((4 : Int) = 2) = False := by decide
    have h3 : ((4 : Int) = 3) = False := by decide
    unfold bhd Cfg.words
    simp only [h1, h2, h3, if_false, if_true]
  rw [e4, hN] at hb
  generalize fst c 4 = f4 at hb
  clear e4 hA hN
  go_enter Tryz.func6, Tryz.ntmps6
  go_wp2_with fail
  refine hb.mono ?_
  rintro e w2 ⟨rfl, l2⟩
  have Hl : Hid (Below w.heap.size w w2) := l2
  have hn := Mk.new_in N hNb w2
  clear hb l2
  go_wp2_with fail
  refine hn.mono ?_
  rintro e w3 ⟨mb, mg, rfl, hm, l3, h1, h2⟩
  have Hl3 : Hid (Below w.heap.size w w3) := Hl.out.trans (l3.mono Hl.out.size)
  have b4 : Below w3.heap.size w3 (w3.alloc (.cells #[.pointer (some ⟨b, 0, none⟩), .slice none 0 0, .pointer (some ⟨mb, 0, none⟩)] 95)) := Below.alloc (Below.refl _ _) (Nat.le_refl _) _
  have HE : Hid (Rg (w3.alloc (.cells #[.pointer (some ⟨b, 0, none⟩), .slice none 0 0, .pointer (some ⟨mb, 0, none⟩)] 95)) w.heap.size w3.heap.size b (.slice none 0 0) [] mb mg N (fun _ => false) ∧ Below w.heap.size w (w3.alloc (.cells #[.pointer (some ⟨b, 0, none⟩), .slice none 0 0, .pointer (some ⟨mb, 0, none⟩)] 95))) := by
    have s2 := Hl.out.size
    have s3 := Hl3.out.size
    have o1 := hm.own.lt
    have o2 := hm.row.lt
    exact ⟨Rg.start (heap_alloc_new w3 _) (hm.below b4) s3 (by omega) (by omega) (by omega) (by omega), Hl3.out.trans (b4.mono s3)⟩
  clear hn hm l3 h1 h2 b4 Hl Hl3
  go_wp2_with fail
  go_ret
  exact ⟨_, mb, mg, rfl, HE.out.1, HE.out.2⟩
end

end Go.Proofs.YtbgnagjhkfkekaaGreatDoor

/-
  WeakRegisters: Add.
-/
set_option linter.unusedVariables false
set_option maxRecDepth 20000
namespace Go.Proofs.YtbgnagjhkfkekaaGreatDoor
open Go.RowKit Go.Shelf

section
variable {w w' : World} {n1 rb ab mb mg n : Nat} {lv : Value} {l : List Int} {M : Nat → Bool}

/-- What Head answers there, in every later world. -/
def HdAt (w : World) (ab : Nat) (a s k p r g t : Int) (h d : Bool) : Prop := ∀ w1, Below w.heap.size w w1 → Calls Tryz.prog 32 #[.pointer (some ⟨ab, 0, none⟩), .int .i64 a] w1 fun e w' => e = .returned (.tuple #[hv s k p r g t h, .bool d]) ∧ Below w1.heap.size w1 w'

set_option maxHeartbeats 800000 in
/-- Add of what is none of kind Final. -/
theorem wAdd_none (H : Rg w n1 rb ab lv l mb mg n M) (a s k p r g t : Int) (h d : Bool) (hk : k ≠ 4) (hd : HdAt w ab a s k p r g t h d) :
    Calls Tryz.prog 9 #[.pointer (some ⟨rb, 0, none⟩), .int .i64 a] w fun e w' => e = .returned (.int .i64 100) ∧ Below w.heap.size w w' := by
  have k0 : w.cell? ⟨rb, 0, none⟩ = some (.pointer (some ⟨ab, 0, none⟩)) := H.cell 0
  have h1 := hd w (Below.refl _ _)
  clear H hd
  go_enter Tryz.func9, Tryz.ntmps9
  go_wp2_with fail
  refine h1.mono ?_
  rintro e w2 ⟨rfl, l2⟩
  clear h1 k0
  have l3 := Below.alloc l2 l2.size (.cells (hcells s k p r g t h) 60)
  have hy : (w2.alloc (.cells (hcells s k p r g t h) 60)).cell? ⟨w2.heap.size, 1, none⟩ = some (.int .i64 k) := cell_of_row _ _ 1 _ _ _ (heap_alloc_new w2 (.cells (hcells s k p r g t h) 60 (0, 0)))
  go_upto_region 2 with fail
  generalize w2.alloc (.cells (hcells s k p r g t h) 60) = w3 at *
  generalize w2.heap.size = R at *
  clear l2
  go_wp2
  go_ret
  exact ⟨rfl, l3⟩

set_option maxHeartbeats 800000 in
/-- Add of one that is there. -/
theorem wAdd_twice (H : Rg w n1 rb ab lv l mb mg n M) (a : Nat) (ha : a < n) (hm : (a : Int) ∈ l) (s p r g t : Int) (h d : Bool) (hd : HdAt w ab a s 4 p r g t h d) :
    Calls Tryz.prog 9 #[.pointer (some ⟨rb, 0, none⟩), .int .i64 a] w fun e w' => e = .returned (.int .i64 101) ∧ Below w.heap.size w w' := by
  have k0 : w.cell? ⟨rb, 0, none⟩ = some (.pointer (some ⟨ab, 0, none⟩)) := H.cell 0
  have h1 := hd w (Below.refl _ _)
  have HR : Hid (Rg w n1 rb ab lv l mb mg n M) := H
  have Hm : Hid (M a = true) := (H.mem a ha).2 hm
  clear H hd hm
  go_enter Tryz.func9, Tryz.ntmps9
  go_wp2_with fail
  refine h1.mono ?_
  rintro e w2 ⟨rfl, l2⟩
  clear h1 k0
  have l3 := Below.alloc l2 l2.size (.cells (hcells s 4 p r g t h) 60)
  have hy : (w2.alloc (.cells (hcells s 4 p r g t h) 60)).cell? ⟨w2.heap.size, 1, none⟩ = some (.int .i64 4) := cell_of_row _ _ 1 _ _ _ (heap_alloc_new w2 (.cells (hcells s 4 p r g t h) 60 (0, 0)))
  go_upto_region 2 with fail
  generalize w2.alloc (.cells (hcells s 4 p r g t h) 60) = w3 at *
  generalize w2.heap.size = R at *
  clear l2
  have H3 := HR.out.below l3
  have k2 : w3.cell? ⟨rb, 2, none⟩ = some (.pointer (some ⟨mb, 0, none⟩)) := H3.cell 2
  have hh := Mk.has_any mb mg n M a w3 H3.mp
  rw [show Mk.hasB M (a : Int) = true by simp [Mk.hasB, Hm.out]] at hh
  clear H3 HR
  go_wp2_with fail
  refine hh.mono ?_
  rintro e w4 ⟨rfl, rfl⟩
  go_wp2
  go_ret
  exact ⟨rfl, l3⟩

set_option maxHeartbeats 2000000 in
/-- Add of a new one. -/
theorem wAdd_new (H : Rg w n1 rb ab lv l mb mg n M) (hl : l.length ≤ 1000000) (a : Nat) (ha : a < n) (hm : (a : Int) ∉ l) (s p r g t : Int) (h d : Bool) (hd : HdAt w ab a s 4 p r g t h d) :
    Calls Tryz.prog 9 #[.pointer (some ⟨rb, 0, none⟩), .int .i64 a] w fun e w' => e = .returned (.int .i64 0) ∧ ∃ lv', Rg w' n1 rb ab lv' (l ++ [(a : Int)]) mb mg n (Mk.add M a (a + 1)) ∧ Touch (rb :: mg :: lv.ownBlock.toList) w w' ∧ (lv'.ownBlock = lv.ownBlock ∨ ∃ k, lv'.ownBlock = some k ∧ w.heap.size ≤ k) := by
  have k0 : w.cell? ⟨rb, 0, none⟩ = some (.pointer (some ⟨ab, 0, none⟩)) := H.cell 0
  have h1 := hd w (Below.refl _ _)
  have HR : Hid (Rg w n1 rb ab lv l mb mg n M) := H
  have Hm : Hid (M a = false) := by
    show M a = false
    cases e : M a with
    | false => rfl
    | true => exact absurd ((H.mem a ha).1 e) hm
  obtain ⟨i0, hi0, hz0, hz1, hz2⟩ := info_parts Tryz.infoInt
  have HI : Hid (Tryz.prog.info? 3 = some i0 ∧ i0.zero = some (.int .i64 0) ∧ i0.size = 1 ∧ i0.bytes = 8) := ⟨hi0, hz0, hz1, hz2⟩
  have hn := H.mp.le
  obtain ⟨ad, cap, rfl⟩ := own_sl H.row
  clear H hd hm hi0 hz0 hz1 hz2
  go_enter Tryz.func9, Tryz.ntmps9
  go_wp2_with fail
  refine h1.mono ?_
  rintro e w2 ⟨rfl, l2⟩
  clear h1 k0
  have l3 := Below.alloc l2 l2.size (.cells (hcells s 4 p r g t h) 60)
  have hy : (w2.alloc (.cells (hcells s 4 p r g t h) 60)).cell? ⟨w2.heap.size, 1, none⟩ = some (.int .i64 4) := cell_of_row _ _ 1 _ _ _ (heap_alloc_new w2 (.cells (hcells s 4 p r g t h) 60 (0, 0)))
  go_upto_region 2 with fail
  generalize w2.alloc (.cells (hcells s 4 p r g t h) 60) = w3 at *
  generalize w2.heap.size = R at *
  clear l2
  have H3 := HR.out.below l3
  have k2 : w3.cell? ⟨rb, 2, none⟩ = some (.pointer (some ⟨mb, 0, none⟩)) := H3.cell 2
  have k1 : w3.cell? ⟨rb, 1, none⟩ = some (.slice ad l.length cap) := H3.cell 1
  have hh := Mk.has_any mb mg n M a w3 H3.mp
  rw [show Mk.hasB M (a : Int) = false by simp [Mk.hasB, Hm.out]] at hh
  have HR3 : Hid (Rg w3 n1 rb ab (.slice ad l.length cap) l mb mg n M) := H3
  have HL3 : Hid (Below w.heap.size w w3) := l3
  have hb3 : n1 ≤ w3.heap.size := Nat.le_of_lt (Nat.lt_of_le_of_lt H3.lr H3.lt)
  clear H3 l3
  go_wp2_with fail
  refine hh.mono ?_
  rintro e w4 ⟨rfl, rfl⟩
  clear hh hy
  go_wp2_with (at_builtin; refine wpList_append_own_at _ rfl _ _ 27 rfl n1 3 i0 (.int .i64 0) 1 8 Tryz.underlying27 HI.out.1 HI.out.2.1 HI.out.2.2.1 HI.out.2.2.2 rfl (by decide) _ _ _ rfl (HR3.out.row.alloc _) ⟨w3.heap.size, 0, none⟩ 1 1 [.int .i64 a] rfl rfl (cell_one_new _ _ _) (by simp [Value.oneCell']) (by simp [maxLen]; omega) (by omega) (by simp; omega) ?_)
  intro v' w5 hown' hgrow _ hat
  have t2 : Touch (Value.slice ad l.length cap).ownBlock.toList w3 w5 := ⟨hgrow.os, hgrow.tape, hgrow.output, by have := hgrow.size; simp at this; omega, fun k hk hn => (hgrow.block k (by simp; omega) (fun e => hn (by rw [Option.mem_toList]; exact e.symm))).trans (Below.heap_alloc _ _ _ hk)⟩
  have hs2 : w5.heap[rb]? = w3.heap[rb]? := t2.block rb HR3.out.lt (by
    intro hm
    rw [Option.mem_toList] at hm
    exact row_ne HR3.out.own HR3.out.row (by decide) hm.symm)
  have hs9 : w3.heap.size ≤ w5.heap.size := t2.size
  have c1 : w5.cell? ⟨rb, 1, none⟩ = some (.slice ad l.length cap) := (World.cell?_of_block (w := w3) hs2).trans k1
  have f1 : w5.frozen? ⟨rb, 1, none⟩ = false := by
    unfold World.frozen?
    simp only [hs2, HR3.out.own]
    simp
  have Hat : Hid (v'.ownBlock = (Value.slice ad l.length cap).ownBlock ∨ v'.ownBlock = some (w3.heap.size + 1)) := by
    rcases hat with h | h
    · exact .inl h
    · exact .inr (h.trans (by simp))
  have Hr2 : Hid (w5.ownsRow n1 3 1 v' (l ++ [(a : Int)]).length (ints (l ++ [(a : Int)]))) := by
    show w5.ownsRow n1 3 1 v' (l ++ [(a : Int)]).length (ints (l ++ [(a : Int)]))
    have := hown'
    simpa [ints] using this
  have Hs2 : Hid (w5.heap[rb]? = w3.heap[rb]?) := hs2
  have HT2 : Hid (Touch (Value.slice ad l.length cap).ownBlock.toList w3 w5) := t2
  obtain ⟨a3, c3, rfl⟩ := own_sl hown'
  clear hown' hgrow hat k1 k2 hs2 t2
  go_upto_region 7 with fail
  obtain ⟨w6, hw6⟩ : ∃ w6, w6 = w5.setCell ⟨rb, 1, none⟩ (.slice a3 (l.length + 1) c3) := ⟨_, rfl⟩
  have hb6 : ∀ k, k ≠ rb → w6.heap[k]? = w5.heap[k]? := fun k hk => by rw [hw6]; exact Below.heap_setCell _ _ _ _ hk
  have hsb6 : w6.heap[rb]? = some (.cells #[.pointer (some ⟨ab, 0, none⟩), .slice a3 (l.length + 1) c3, .pointer (some ⟨mb, 0, none⟩)] 95 (0, 0)) := by
    rw [hw6]
    simp [World.setCell, Array.getElem?_modify, Hs2.out, HR3.out.own]
  have hsz6 : w6.heap.size = w5.heap.size := by rw [hw6]; simp [World.setCell]
  have hne : ∀ q, (Value.slice a3 (l.length + 1) c3).ownBlock = some q → q ≠ rb := fun q hq e => by
    subst e
    have h1 : w5.heap[q]? = some (.cells #[.pointer (some ⟨ab, 0, none⟩), .slice ad l.length cap, .pointer (some ⟨mb, 0, none⟩)] 95 (0, 0)) := Hs2.out.trans HR3.out.own
    exact row_ne h1 Hr2.out (by decide) hq.symm
  have hqm : ∀ q, (Value.slice ad l.length cap).ownBlock = some q → q ≠ mb ∧ q ≠ mg := fun q hq => HR3.out.apart q hq
  have t6 : Touch (rb :: (Value.slice ad l.length cap).ownBlock.toList) w3 w6 := ⟨by rw [hw6]; exact HT2.out.os, by rw [hw6]; exact HT2.out.tape, by rw [hw6]; exact HT2.out.output, by rw [hsz6]; exact HT2.out.size, fun k hk hn => (hb6 k (fun e => hn (by rw [e]; exact List.mem_cons_self))).trans (HT2.out.block k hk (fun e => hn (List.mem_cons_of_mem _ e)))⟩
  have hm6 : Mk.Mp w6 mb mg n M := HR3.out.mp.touch t6.mk_ (by
    intro hm
    rcases List.mem_cons.1 hm with e | e
    · exact HR3.out.rm e.symm
    · exact (hqm mb (Option.mem_toList.1 e)).1 rfl) (by
    intro hm
    rcases List.mem_cons.1 hm with e | e
    · exact HR3.out.rg e.symm
    · exact (hqm mg (Option.mem_toList.1 e)).2 rfl)
  have k2 : w6.cell? ⟨rb, 2, none⟩ = some (.pointer (some ⟨mb, 0, none⟩)) := cell_of_row _ _ 2 _ _ _ hsb6
  have hse := Mk.set_in mb mg n M a 1 (by omega) w6 hm6
  rw [← hw6]
  have HW6 : Hid (w6.heap[rb]? = some (.cells #[.pointer (some ⟨ab, 0, none⟩), .slice a3 (l.length + 1) c3, .pointer (some ⟨mb, 0, none⟩)] 95 (0, 0)) ∧ (∀ k, k ≠ rb → w6.heap[k]? = w5.heap[k]?) ∧ Touch (rb :: (Value.slice ad l.length cap).ownBlock.toList) w3 w6 ∧ (∀ q, (Value.slice a3 (l.length + 1) c3).ownBlock = some q → q ≠ rb)) := ⟨hsb6, hb6, t6, hne⟩
  clear hw6 hsb6 hb6 t6 hne hm6 c1 f1 hqm hsz6
  go_wp2_with fail
  refine hse.mono ?_
  rintro e w7 ⟨fs, -, rfl, hm7, t7⟩
  have HE : Hid (Mk.Mp w7 mb mg n (Mk.add M a (a + 1)) ∧ Mk.Touch [mg] w6 w7) := ⟨hm7, t7⟩
  clear hse hm7 t7 k2
  go_wp2
  go_ret
  have t67 : Touch [mg] w6 w7 := touch_mk HE.out.2
  have hlt6 : rb < w6.heap.size := (Array.getElem?_eq_some_iff.1 HW6.out.1).1
  have hsz6 : w5.heap.size ≤ w6.heap.size := by
    rcases Nat.lt_or_ge w6.heap.size w5.heap.size with h9 | h9
    · have e9 := HW6.out.2.1 w6.heap.size (by omega)
      rw [Array.getElem?_eq_none (Nat.le_refl _), eq_comm, Array.getElem?_eq_none_iff] at e9
      omega
    · exact h9
  have hq6 : ∀ q, (Value.slice a3 (l.length + 1) c3).ownBlock = some q → w7.heap[q]? = w5.heap[q]? := fun q hq => by
    have h8 := row_lt Hr2.out q hq
    have h7 : q ≠ mg := fun e => by
      subst e
      have h5 : w5.heap[q]? = w3.heap[q]? := HT2.out.block q HR3.out.mp.row.lt (fun hm => (HR3.out.apart q (Option.mem_toList.1 hm)).2 rfl)
      rcases Hat.out with h9 | h9
      · exact (HR3.out.apart q (h9.symm.trans hq)).2 rfl
      · rw [h9] at hq
        have := HR3.out.mp.row.lt
        simp at hq
        omega
    exact (t67.block q (by omega) (by simpa using h7)).trans (HW6.out.2.1 q (HW6.out.2.2.2 q hq))
  have hn7 : ∀ {k : Nat}, k ∉ rb :: mg :: (Value.slice ad l.length cap).ownBlock.toList → k ≠ rb ∧ k ≠ mg ∧ k ∉ (Value.slice ad l.length cap).ownBlock.toList := fun {k} h => by
    simp only [List.mem_cons, not_or] at h
    exact h
  refine ⟨rfl, .slice a3 (l.length + 1) c3, ⟨?_, ?_, HE.out.1, fun y hy => ?_, HR3.out.lr, HR3.out.lm, HR3.out.lg, HR3.out.rm, HR3.out.rg⟩, ?_, ?_⟩
  · exact (t67.block rb hlt6 (by simpa using HR3.out.rg)).trans HW6.out.1
  · exact row_keep Hr2.out hq6
  · have h9 := HR3.out.mem y hy
    simp only [Mk.add, Bool.or_eq_true, Bool.and_eq_true, decide_eq_true_eq, List.mem_append, List.mem_singleton]
    rw [h9]
    constructor
    · rintro (h8 | h8)
      · exact .inl h8
      · exact .inr (by omega)
    · rintro (h8 | h8)
      · exact .inl h8
      · exact .inr (by omega)
  · have t1 : Touch (rb :: mg :: (Value.slice ad l.length cap).ownBlock.toList) w w3 := Touch.of_below HL3.out _
    exact (t1.then HW6.out.2.2.1 (fun k hk => by
      rcases List.mem_cons.1 hk with e | e
      · exact .inl (e ▸ List.mem_cons_self)
      · exact .inl (List.mem_cons_of_mem _ (List.mem_cons_of_mem _ e)))).then t67 (fun k hk => .inl (by simp at hk; subst hk; simp))
  · rcases Hat.out with h9 | h9
    · exact .inl h9
    · exact .inr ⟨_, h9, by have := HL3.out.size; omega⟩
end

end Go.Proofs.YtbgnagjhkfkekaaGreatDoor

