import Derived.Test.YtbgnagjhkfkekaaGreatDoorPWb
import Derived.Test.YtbgnagjhkfkekaaGreatDoorKG14
/-
  WeakRegisters: All, and the law's list.
-/
set_option linter.unusedVariables false
set_option maxRecDepth 20000
namespace Go.Proofs.YtbgnagjhkfkekaaGreatDoor
open Go.RowKit Go.Shelf

theorem wAll_any (rb : Nat) (w : World) : Calls Tryz.prog 7 #[.pointer (some ⟨rb, 0, none⟩)] w fun e w' => ∃ bx, e = .returned (.func (.func 31) #[] #[.pointer (some ⟨bx, 0, none⟩)]) ∧ Boxed w' bx 33 (.pointer (some ⟨rb, 0, none⟩)) ∧ w.heap.size ≤ bx ∧ Below w.heap.size w w' := by
  have l1 : Below w.heap.size w (w.alloc (.cells #[.pointer (some ⟨rb, 0, none⟩)] 33)) := Below.alloc (Below.refl _ _) (Nat.le_refl _) _
  have b1 := Boxed.new w 33 (.pointer (some ⟨rb, 0, none⟩))
  go_enter Tryz.func7, Tryz.ntmps7
  go_wp2
  go_ret
  exact ⟨_, rfl, b1, Nat.le_refl _, l1⟩

theorem lcl_enters : ∀ args w, (callFunc 51 args).run Tryz.prog w = .ok (.enter 51 args) w := enters_of Tryz.func51 (by kernel_rfl) rfl
theorem all1_enters : ∀ args w, (callFunc 31 args).run Tryz.prog w = .ok (.enter 31 args) w := enters_of Tryz.func31 (by kernel_rfl) rfl

/-- The boxes of list's closure. -/
structure Lb (w : World) (okb nb wb sb j : Nat) (stop : Int) (wv : Value) : Prop where
  o : Boxed w okb 4 (.bool true)
  n : Boxed w nb 3 (.int .i64 j)
  w_ : Boxed w wb 27 wv
  s : Boxed w sb 3 (.int .i64 stop)

/-- They lie apart. -/
structure Ld (okb nb wb sb g : Nat) : Prop where
  d1 : okb ≠ nb
  d2 : wb ≠ okb
  d3 : wb ≠ nb
  d4 : sb ≠ okb
  d5 : sb ≠ nb
  d6 : g ≠ okb
  d7 : g ≠ nb

section
variable {w w' : World} {n1 rb ab mb mg n : Nat} {lv : Value} {l : List Int} {M : Nat → Bool}

set_option maxHeartbeats 1000000 in
theorem lcl_any {okb nb wb sb j g cap m : Nat} {stop a : Int} (h : Lb w okb nb wb sb j stop (.slice (some ⟨g, 0, none⟩) m cap)) (hd : Ld okb nb wb sb g) (hj : j < m) (hm : m ≤ 1000000) (hc : w.cell? ⟨g, j, none⟩ = some (.int .i64 a)) :
    Calls Tryz.prog 51 #[.int .i64 a, .pointer (some ⟨okb, 0, none⟩), .pointer (some ⟨nb, 0, none⟩), .pointer (some ⟨wb, 0, none⟩), .pointer (some ⟨sb, 0, none⟩)] w fun e w' => e = .returned (.bool (!decide (((j : Int) + 1) = stop))) ∧ Lb w' okb nb wb sb (j + 1) stop (.slice (some ⟨g, 0, none⟩) m cap) ∧ Touch [okb, nb] w w' := by
  have c1 := h.o.cell
  have c2 := h.n.cell
  have c3 := h.w_.cell
  have c4 := h.s.cell
  have f1 := h.o.frozen
  have f2 := h.n.frozen
  have HB : Hid (Lb w okb nb wb sb j stop (.slice (some ⟨g, 0, none⟩) m cap)) := h
  have d1 := hd.d1; have d2 := hd.d2; have d3 := hd.d3; have d4 := hd.d4; have d5 := hd.d5
  have HE : Hid (Lb ((w.setCell ⟨okb, 0, none⟩ (.bool true)).setCell ⟨nb, 0, none⟩ (.int .i64 ((j : Int) + 1))) okb nb wb sb (j + 1) stop (.slice (some ⟨g, 0, none⟩) m cap) ∧ Touch [okb, nb] w ((w.setCell ⟨okb, 0, none⟩ (.bool true)).setCell ⟨nb, 0, none⟩ (.int .i64 ((j : Int) + 1)))) := by
    refine ⟨⟨?_, ?_, ?_, ?_⟩, ?_⟩
    · unfold Boxed
      rw [Below.heap_setCell _ _ _ _ d1]
      have := h.o
      unfold Boxed at this
      simp [World.setCell, Array.getElem?_modify, this]
    · unfold Boxed
      have := h.n
      unfold Boxed at this
      simp [World.setCell, Array.getElem?_modify, this, d1]
    · unfold Boxed
      rw [Below.heap_setCell _ _ _ _ d3, Below.heap_setCell _ _ _ _ d2]
      exact h.w_
    · unfold Boxed
      rw [Below.heap_setCell _ _ _ _ d5, Below.heap_setCell _ _ _ _ d4]
      exact h.s
    · exact ⟨rfl, rfl, rfl, by simp [World.setCell], fun k hk hn => by
        simp only [List.mem_cons, List.not_mem_nil, or_false, not_or] at hn
        rw [Below.heap_setCell _ _ _ _ hn.2, Below.heap_setCell _ _ _ _ hn.1]⟩
  have hjm : (j : Int) < (m : Int) := by omega
  have hj2 : (j : Int) < 1000000 := by omega
  clear h hd
  go_enter Tryz.func51, Tryz.ntmps51
  go_wp2
  go_ret
  exact ⟨rfl, HE.out.1, HE.out.2⟩

theorem Lb.touch {okb nb wb sb j : Nat} {stop : Int} {wv : Value} (h : Lb w okb nb wb sb j stop wv) (b : Below w.heap.size w w') : Lb w' okb nb wb sb j stop wv :=
  ⟨(b.block _ h.o.lt).trans h.o, (b.block _ h.n.lt).trans h.n, (b.block _ h.w_.lt).trans h.w_, (b.block _ h.s.lt).trans h.s⟩

/-- How many are looked at. -/
def lcut (stop : Int) (n : Nat) : Nat := if 1 ≤ stop ∧ stop < n then stop.toNat else n

theorem lcut_le (stop : Int) (n : Nat) : lcut stop n ≤ n := by unfold lcut; split <;> omega

set_option maxHeartbeats 2000000 in
/-- All's function, told to list's closure: it goes through as many as are looked at. -/
theorem wAll1_list (H : Rg w n1 rb ab lv l mb mg n M) (hl : l.length ≤ 1000000) {bx : Nat} (hbx : Boxed w bx 33 (.pointer (some ⟨rb, 0, none⟩))) {okb nb wb sb : Nat} {stop : Int} {wv : Value}
    (h : Lb w okb nb wb sb 0 stop wv) (hw : l ≠ [] → ∃ g cap, wv = .slice (some ⟨g, 0, none⟩) (lcut stop l.length) cap ∧ Ld okb nb wb sb g ∧ ∀ (j : Nat) z, l[j]? = some z → w.cell? ⟨g, j, none⟩ = some (.int .i64 z))
    (hq : ∀ q, lv.ownBlock = some q → q ≠ okb ∧ q ≠ nb) :
    Calls Tryz.prog 31 #[.func (.func 51) #[] #[.pointer (some ⟨okb, 0, none⟩), .pointer (some ⟨nb, 0, none⟩), .pointer (some ⟨wb, 0, none⟩), .pointer (some ⟨sb, 0, none⟩)], .pointer (some ⟨bx, 0, none⟩)] w fun e w' => e = .returned (.tuple #[]) ∧ Lb w' okb nb wb sb (lcut stop l.length) stop wv ∧ Touch [okb, nb] w w' := by
  have k0 := hbx.cell
  have k1 : w.cell? ⟨rb, 1, none⟩ = some lv := H.cell 1
  by_cases he : l = []
  · subst he
    have hlv : ∃ a cap, lv = .slice a 0 cap := own_sl H.row
    obtain ⟨a0, c0, rfl⟩ := hlv
    have HE : Hid (Lb w okb nb wb sb 0 stop wv) := h
    clear H h hw hq
    go_enter Tryz.func31, Tryz.ntmps31
    go_wp2
    go_loopw [10] (fun i wr => i = .int .i64 0 ∧ wr = w) (fun _ _ => 0)
    case atStart => exact ⟨rfl, rfl⟩
    case round =>
      obtain ⟨rfl, rfl⟩ := hrel
      go_wp2
      go_end0
      exact ⟨rfl, by have e : lcut stop 0 = 0 := (by unfold lcut; split <;> omega); rw [e]; exact HE.out, Touch.refl _ _⟩
  · obtain ⟨g, cap, rfl, hd, hg⟩ := hw he
    have hlp : 0 < l.length := List.length_pos_iff.2 he
    obtain ⟨q, cq, rfl⟩ := Kg.ownsRow_some H.row hlp
    obtain ⟨hq1, hq2⟩ := hq q rfl
    obtain ⟨m, hm⟩ : ∃ m, m = lcut stop l.length := ⟨_, rfl⟩
    have hml : m ≤ l.length := by rw [hm]; exact lcut_le _ _
    have Hm : Hid ((m = l.length ∧ ∀ j, 1 ≤ j → j < l.length → (j : Int) ≠ stop) ∨ (1 ≤ m ∧ (m : Int) = stop)) := by
      rw [hm]
      unfold lcut
      by_cases e : 1 ≤ stop ∧ stop < l.length
      · rw [if_pos e]; right; omega
      · rw [if_neg e]; left; exact ⟨rfl, fun j h1 h2 => by omega⟩
    have Hg : Hid (∀ (j : Nat) z, l[j]? = some z → w.cell? ⟨g, j, none⟩ = some (.int .i64 z)) := hg
    have Hr : Hid (∀ (j : Nat) z, l[j]? = some z → w.cell? ⟨q, j, none⟩ = some (.int .i64 z)) := fun j z hz => by
      obtain ⟨a, cp, h1, -, h3⟩ := row_at (size := 1) (Kg.row_base H.row (Nat.zero_le _)) (by decide)
      obtain ⟨q', e1, -, e3⟩ := h3 j (.int .i64 z) (by simp [hz])
      rw [e1] at h1
      simp at h1
      rw [h1.1]
      exact e3
    have HLb : Hid (Lb w okb nb wb sb 0 stop (.slice (some ⟨g, 0, none⟩) m cap)) := by rw [hm]; exact h
    have HLd : Hid (Ld okb nb wb sb g) := hd
    rw [← hm]
    clear H h hw hd hg he hq hm
    go_enter Tryz.func31, Tryz.ntmps31
    go_wp2
    go_loopw [10] (fun i wr => ∃ k : Nat, k ≤ l.length ∧ i = .int .i64 k ∧ k ≤ m ∧ Hid (k = 0 ∨ (k : Int) ≠ stop) ∧ Hid (Lb wr okb nb wb sb k stop (.slice (some ⟨g, 0, none⟩) m cap)) ∧ Hid (Touch [okb, nb] w wr)) (fun i _ => l.length - (intOf i).toNat)
    case atStart => exact ⟨0, Nat.zero_le _, rfl, Nat.zero_le _, .inl rfl, HLb, Touch.refl _ _⟩
    case round =>
      obtain ⟨k, hk, rfl, hkm, Hks, HB, HT⟩ := hrel
      by_cases hkl : k < l.length
      · have hz : l[k]? = some (l[k]'hkl) := List.getElem?_eq_getElem hkl
        generalize l[k]'hkl = z at hz
        have hkm2 : k < m := by
          rcases Hm.out with ⟨e, -⟩ | ⟨e1, e2⟩
          · omega
          · rcases Hks.out with e | e
            · omega
            · have : k ≠ m := fun h9 => e (by rw [h9]; exact e2)
              omega
        have c1 : wr.cell? ⟨q, k, none⟩ = some (.int .i64 z) := (World.cell?_of_block (w := w) (HT.out.block q (World.block_lt_of_cell? _ _ (Hr.out k z hz)) (by simp; exact ⟨hq1, hq2⟩))).trans (Hr.out k z hz)
        have c2 : wr.cell? ⟨g, k, none⟩ = some (.int .i64 z) := (World.cell?_of_block (w := w) (HT.out.block g (World.block_lt_of_cell? _ _ (Hg.out k z hz)) (by simp; exact ⟨HLd.out.d6, HLd.out.d7⟩))).trans (Hg.out k z hz)
        have hcl := lcl_any HB.out HLd.out hkm2 (by omega) c2
        have hki : (k : Int) < (l.length : Int) := by omega
        have hent := lcl_enters
        clear c2 hz
        by_cases hst : ((k : Int) + 1) = stop
        · have e9 : (!decide ((k : Int) + 1 = stop)) = false := by simp [hst]
          rw [e9] at hcl
          have HK : Hid (k + 1 = m) := by
            rcases Hm.out with ⟨e, h9⟩ | ⟨e1, e2⟩
            · show k + 1 = m
              by_cases h8 : k + 1 < l.length
              · exact absurd (by omega) (h9 (k + 1) (by omega) h8)
              · omega
            · show k + 1 = m
              omega
          clear e9 hst
          go_wp2_with fail
          refine hcl.mono ?_
          rintro e w5 ⟨rfl, HB5, t5⟩
          have HE : Hid (Lb w5 okb nb wb sb m stop (.slice (some ⟨g, 0, none⟩) m cap) ∧ Touch [okb, nb] w w5) := ⟨by have h9 := HB5; rw [HK.out] at h9; exact h9, HT.out.trans t5⟩
          clear hcl HB5 t5
          go_wp2
          refine bodyPost_ret (results_none rfl _ _ _) rfl ?_
          exact ⟨rfl, HE.out.1, HE.out.2⟩
        · have e9 : (!decide ((k : Int) + 1 = stop)) = true := by simp [hst]
          rw [e9] at hcl
          have HK : Hid (((k + 1 : Nat) : Int) ≠ stop) := by
            show ((k + 1 : Nat) : Int) ≠ stop
            omega
          clear e9 hst
          go_wp2_with fail
          refine hcl.mono ?_
          rintro e w5 ⟨rfl, HB5, t5⟩
          have HE : Hid (Lb w5 okb nb wb sb (k + 1) stop (.slice (some ⟨g, 0, none⟩) m cap)) := HB5
          have HE2 : Hid (Touch [okb, nb] w w5) := HT.out.trans t5
          clear hcl HB5 t5
          go_wp2
          go_roundw
          case rel => exact ⟨k + 1, by omega, by go_num, by omega, .inr HK.out, HE, HE2⟩
          case measure => simp [intOf]; omega
      · have hke : k = l.length := by omega
        have hki : ¬ (k : Int) < (l.length : Int) := by omega
        have HE : Hid (Lb wr okb nb wb sb m stop (.slice (some ⟨g, 0, none⟩) m cap)) := by
          have : k = m := by omega
          have h9 := HB.out
          rw [this] at h9
          exact h9
        clear hke hkl HB
        go_wp2
        go_end0
        exact ⟨rfl, HE.out, HT.out⟩
end

end Go.Proofs.YtbgnagjhkfkekaaGreatDoor

/-
  WeakRegisters: the law's list over what All gave.
-/
set_option linter.unusedVariables false
set_option maxRecDepth 20000
namespace Go.Proofs.YtbgnagjhkfkekaaGreatDoor
open Go.RowKit Go.Shelf

theorem nil_seq (bx : Nat) : ∀ w, (binOp .eql 35 (.func (.func 31) #[] #[.pointer (some ⟨bx, 0, none⟩)]) .nilFunc).run Tryz.prog w = .ok (.bool false) w := fun w => by first | rfl | kernel_rfl | (simp [binOp, go_sem]; done)

section
variable {w w' : World} {n1 rb ab mb mg n : Nat} {lv : Value} {l : List Int} {M : Nat → Bool}

set_option maxHeartbeats 4000000 in
/-- The law's list: just what All gives. -/
theorem list10_yes (H : Rg w n1 rb ab lv l mb mg n M) (hl : l.length ≤ 1000000) {bx : Nat} (hbx : Boxed w bx 33 (.pointer (some ⟨rb, 0, none⟩))) (base : Nat) (wv : Value) (hw : w.ownsRow base 3 1 wv l.length (ints l)) (stop : Int) (hs : InI stop) :
    Calls Tryz.prog 15 #[.func (.func 31) #[] #[.pointer (some ⟨bx, 0, none⟩)], wv, .int .i64 stop] w fun e w' => e = .returned (.bool true) ∧ Below w.heap.size w w' := by
  obtain ⟨a0, cap, rfl⟩ := own_sl hw
  have hcap : l.length ≤ cap := by
    rcases hw.2 with ⟨e, e2⟩ | ⟨g, cp, cur, e, -, -, h9, -⟩
    · simp at e; omega
    · simp at e; omega
  have HR : Hid (Rg w n1 rb ab lv l mb mg n M) := H
  have HBx : Hid (Boxed w bx 33 (.pointer (some ⟨rb, 0, none⟩))) := hbx
  have HW : Hid (w.ownsRow base 3 1 (.slice a0 l.length cap) l.length (ints l)) := hw
  have hnil := nil_seq bx
  have l1 : Below w.heap.size w (w.alloc (.cells #[.slice a0 l.length cap] 27)) := Below.alloc (Below.refl _ _) (Nat.le_refl _) _
  have l2 : Below w.heap.size w ((w.alloc (.cells #[.slice a0 l.length cap] 27)).alloc (.cells #[.int .i64 stop] 3)) := Below.alloc l1 l1.size _
  have b1 : Boxed ((w.alloc (.cells #[.slice a0 l.length cap] 27)).alloc (.cells #[.int .i64 stop] 3)) w.heap.size 27 (.slice a0 l.length cap) := (Below.heap_alloc _ _ _ (by simp)).trans (Boxed.new w 27 _)
  have b2 : Boxed ((w.alloc (.cells #[.slice a0 l.length cap] 27)).alloc (.cells #[.int .i64 stop] 3)) (w.heap.size + 1) 3 (.int .i64 stop) := by
    have := Boxed.new (w.alloc (.cells #[.slice a0 l.length cap] 27)) 3 (.int .i64 stop)
    simpa using this
  clear H hbx hw l1
  go_enter Tryz.func15, Tryz.ntmps15
  refine wp_seq_k ?_
  intro K hK
  go_cut [4, 5, 6] from 4 to 6 (fun v4 v5 v6 wq => v4 = .pointer (some ⟨w.heap.size, 0, none⟩) ∧ v5 = .pointer (some ⟨w.heap.size + 1, 0, none⟩) ∧ v6 = .bool false ∧ Boxed wq w.heap.size 27 (.slice a0 l.length cap) ∧ Boxed wq (w.heap.size + 1) 3 (.int .i64 stop) ∧ Below w.heap.size w wq)
  case first =>
    go_wp2
    go_meet
    exact ⟨rfl, rfl, rfl, b1, b2, l2⟩
  case rest =>
  obtain ⟨rfl, rfl, rfl, g1, g2, g3⟩ := hcut
  clear b1 b2 l2
  have b1 := g1; have b2 := g2; have l2 := g3
  clear g1 g2 g3
  apply_assumption
  obtain ⟨m, hm⟩ : ∃ m, m = lcut stop l.length := ⟨_, rfl⟩
  have hml : m ≤ l.length := by rw [hm]; exact lcut_le _ _
  refine wp_seq_k ?_
  intro K hK
  go_cut [] from 10 to 20 (fun wc => Boxed wc w.heap.size 27 (.slice a0 m cap) ∧ Boxed wc (w.heap.size + 1) 3 (.int .i64 stop) ∧ Below w.heap.size w wc)
  case first =>
    have c1 := b1.cell
    have c2 := b2.cell
    have f1 := b1.frozen
    have HB : Hid (Boxed wc w.heap.size 27 (.slice a0 l.length cap) ∧ Boxed wc (w.heap.size + 1) 3 (.int .i64 stop) ∧ Below w.heap.size w wc) := ⟨b1, b2, l2⟩
    clear b1 b2 l2
    by_cases h1 : 1 ≤ stop
    · by_cases h2 : stop < l.length
      · obtain ⟨k, rfl⟩ := Int.eq_ofNat_of_zero_le (show 0 ≤ stop by omega)
        have hmk : m = k := by
          rw [hm]
          unfold lcut
          rw [if_pos ⟨h1, h2⟩]
          omega
        have h3 : k ≤ cap := by omega
        obtain ⟨q, hq⟩ : ∃ q, a0 = some q := by
          rcases HW.out.2 with ⟨e, e2⟩ | ⟨g, cp, cur, e, -⟩
          · simp at e; omega
          · simp at e; exact ⟨_, e.1⟩
        have Hmk : Hid (m = k) := hmk
        subst hq
        clear hmk hm hml
        go_wp2
        go_meet
        refine ⟨?_, ?_, ?_⟩
        · rw [Hmk.out]
          have := HB.out.1
          unfold Boxed at this ⊢
          simp [World.setCell, Array.getElem?_modify, this]
        · exact (Below.heap_setCell _ _ _ _ (by simp)).trans HB.out.2.1
        · exact Below.setCell (p := ⟨w.heap.size, 0, none⟩) HB.out.2.2 (Nat.le_refl _) _
      · have hmk : m = l.length := by
          rw [hm]
          unfold lcut
          rw [if_neg (by omega)]
        subst hmk
        clear hm
        go_wp2
        go_meet
        exact HB.out
    · have hmk : m = l.length := by
        rw [hm]
        unfold lcut
        rw [if_neg (by omega)]
      subst hmk
      clear hm
      go_wp2
      go_meet
      exact HB.out
  case rest =>
  obtain ⟨hb1, hb2, hb3⟩ := hcut
  clear b1 b2 l2
  apply_assumption
  have HC : Hid (Boxed wc w.heap.size 27 (.slice a0 m cap) ∧ Boxed wc (w.heap.size + 1) 3 (.int .i64 stop)) := ⟨hb1, hb2⟩
  have HCb : Hid (Below w.heap.size w wc) := hb3
  have Hm : Hid (m = lcut stop l.length) := hm
  clear hb1 hb2 hb3 hm
  go_wp2
  go_loopw [7] (fun v7 wr => ∃ k : Nat, k ≤ 2 ∧ v7 = .int .i64 k ∧ Hid (Boxed wr w.heap.size 27 (.slice a0 m cap) ∧ Boxed wr (w.heap.size + 1) 3 (.int .i64 stop)) ∧ Hid (Below w.heap.size w wr)) (fun v7 _ => 2 - (intOf v7).toNat)
  case atStart => exact ⟨0, by omega, rfl, HC, HCb⟩
  case round =>
    obtain ⟨k, hk, rfl, HD, HDb⟩ := hrel
    clear HC HCb
    by_cases hk2 : k < 2
    · have hki : (k : Int) < 2 := by omega
      go_upto_region 10 with fail
      have l1 : Below wr.heap.size wr (wr.alloc (.cells #[.int .i64 0] 3)) := Below.alloc (Below.refl _ _) (Nat.le_refl _) _
      have l2 : Below wr.heap.size wr ((wr.alloc (.cells #[.int .i64 0] 3)).alloc (.cells #[.bool true] 4)) := Below.alloc l1 l1.size _
      have b1 : Boxed ((wr.alloc (.cells #[.int .i64 0] 3)).alloc (.cells #[.bool true] 4)) wr.heap.size 3 (.int .i64 0) := (Below.heap_alloc _ _ _ (by simp)).trans (Boxed.new wr 3 _)
      have b2 : Boxed ((wr.alloc (.cells #[.int .i64 0] 3)).alloc (.cells #[.bool true] 4)) (wr.heap.size + 1) 4 (.bool true) := by
        have := Boxed.new (wr.alloc (.cells #[.int .i64 0] 3)) 4 (.bool true)
        simpa using this
      generalize (wr.alloc (.cells #[.int .i64 0] 3)).alloc (.cells #[.bool true] 4) = v at *
      have hlt1 := HD.out.1.lt
      have hlt2 := HD.out.2.lt
      have hLb : Lb v (wr.heap.size + 1) wr.heap.size w.heap.size (w.heap.size + 1) 0 stop (.slice a0 m cap) := ⟨b2, b1, (l2.block _ hlt1).trans HD.out.1, (l2.block _ hlt2).trans HD.out.2⟩
      have l3 : Below w.heap.size w v := HDb.out.trans (l2.mono HDb.out.size)
      have hcall := wAll1_list (HR.out.below l3) hl ((l3.block _ HBx.out.lt).trans HBx.out) hLb (fun he => by
        have hlp : 0 < l.length := List.length_pos_iff.2 he
        obtain ⟨q, cq, hq⟩ := Kg.ownsRow_some HW.out hlp
        simp at hq
        have hqlt := row_lt HW.out q (by rw [hq.1]; rfl)
        refine ⟨q, cap, by rw [hq.1, Hm.out], ⟨by omega, by omega, by omega, by omega, by omega, by omega, by omega⟩, fun j z hz => ?_⟩
        obtain ⟨a, cp, h1, -, h3⟩ := row_at (size := 1) (Kg.row_base HW.out (Nat.zero_le _)) (by decide)
        obtain ⟨q', e1, -, e3⟩ := h3 j (.int .i64 z) (by simp [hz])
        rw [e1] at h1
        simp at h1
        rw [hq.1] at h1
        simp at h1
        rw [h1.1]
        exact (l3.cell (p := ⟨q', j, none⟩) (by have h5 := hqlt; rw [h1.1] at h5; exact h5)).trans e3) (fun q hq => by
        have := row_lt HR.out.row q hq
        omega)
      rw [← Hm.out] at hcall
      have hent := all1_enters
      have HL3 : Hid (Below w.heap.size w v ∧ wr.heap.size ≤ v.heap.size ∧ w.heap.size ≤ wr.heap.size) := ⟨l3, l2.size, HDb.out.size⟩
      clear b1 b2 hLb l1 l2 l3 HD HDb
      go_wp2_with fail
      refine hcall.mono ?_
      rintro e v2 ⟨rfl, hB, tB⟩
      have HB : Hid (Lb v2 (wr.heap.size + 1) wr.heap.size w.heap.size (w.heap.size + 1) m stop (.slice a0 m cap)) := hB
      have HT : Hid (Below w.heap.size w v2) := HL3.out.1.trans (tB.below HL3.out.1.size (fun k hk => by
        have := HL3.out.2.2
        simp at hk
        omega))
      have c1 := hB.o.cell
      have c2 := hB.n.cell
      have c3 := hB.w_.cell
      clear hcall hB tB HL3
      go_wp2
      go_roundw
      case rel => exact ⟨k + 1, by omega, by go_num, ⟨HB.out.w_, HB.out.s⟩, HT⟩
      case measure => simp [intOf]; omega
    · have hke : ¬ (k : Int) < 2 := by omega
      go_wp2
      go_ret
      exact ⟨rfl, HDb.out⟩
end

end Go.Proofs.YtbgnagjhkfkekaaGreatDoor

