/-
  The closure that collects what an iterator gives.
-/
import Derived.Test.YtcjblafohfiiaabGreatSi
import Derived.Maps.AppendAt
set_option linter.unusedVariables false
namespace Go.Proofs.YtcjblafohfiiaabGreat
open Go.RowKit Go.Shelf

/-- The closure's variables: ok is true; ended; the list l; stop. K: blocks that are left alone. -/
structure Col (base okB enB lB stB : Nat) (stop : Int) (K : List Nat) (pre : List Int) (ended : Bool) (v : Value) (W : World) : Prop where
  ok : Boxed W okB 4 (.bool true)
  en : Boxed W enB 4 (.bool ended)
  st : Boxed W stB 3 (.int .i64 stop)
  li : Boxed W lB 68 v
  row : W.ownsRow base 3 1 v pre.length (ints pre)
  apart : ∀ k, v.ownBlock = some k → k ∉ stB :: K
  inK : ∀ k, k ∈ K → k < W.heap.size ∧ k ≠ okB ∧ k ≠ enB ∧ k ≠ lB
  ne : okB ≠ enB

theorem box_touch {W W' : World} {B : Nat} {t : TypeId} {v : Value} {F : List Nat} (h : Boxed W B t v) (ht : Touch F W W') (hn : B ∉ F) : Boxed W' B t v := (ht.block B h.lt hn).trans h

theorem boxed_ne {W : World} {B B' : Nat} {t t' : TypeId} {v v' : Value} (h : Boxed W B t v) (h' : Boxed W B' t' v') (hne : t ≠ t') : B ≠ B' := by
  rintro rfl
  have := (show W.heap[B]? = _ from h).symm.trans h'
  simp at this
  exact hne this.2

set_option maxHeartbeats 2000000 in
theorem collect_core (base okB enB lB stB : Nat) (stop x : Int) (K : List Nat) (pre : List Int) (v : Value) (W : World) (h : Col base okB enB lB stB stop K pre false v W) (hbase : base ≤ W.heap.size) (hlen : pre.length < 1000000) (en' : Bool) (hen : ((pre.length : Int) + 1 == stop) = en') :
    Calls Tryz.prog 76 (#[.int .i64 x] ++ #[.pointer (some ⟨okB, 0, none⟩), .pointer (some ⟨enB, 0, none⟩), .pointer (some ⟨lB, 0, none⟩), .pointer (some ⟨stB, 0, none⟩)]) W fun e W' => e = .returned (.bool (!en')) ∧
      ∃ v' w1, W' = (w1.setCell ⟨lB, 0, none⟩ v').setCell ⟨enB, 0, none⟩ (.bool en') ∧ w1.ownsRow base 3 1 v' (pre.length + 1) (ints pre ++ [.int .i64 x]) ∧
        ((W.setCell ⟨okB, 0, none⟩ (.bool true)).alloc (.cells #[.int .i64 x] 3)).grownBy w1 v.ownBlock ∧ (v'.ownBlock = v.ownBlock ∨ v'.ownBlock = some (W.heap.size + 1)) := by
  obtain ⟨hok, hen0, hst, hli, hrow, hap, hK, hne⟩ := h
  have o_l : okB ≠ lB := boxed_ne hok hli (by decide)
  have o_s : okB ≠ stB := boxed_ne hok hst (by decide)
  have e_l : enB ≠ lB := boxed_ne hen0 hli (by decide)
  have e_s : enB ≠ stB := boxed_ne hen0 hst (by decide)
  have l_s : lB ≠ stB := boxed_ne hli hst (by decide)
  have t1 : Touch [okB] W (W.setCell ⟨okB, 0, none⟩ (.bool true)) := Touch.setCell _ _ _ (by simp)
  have hok1 : Boxed (W.setCell ⟨okB, 0, none⟩ (.bool true)) okB 4 (.bool true) := hok.set _
  have hen1 := box_touch hen0 t1 (by simp [hne.symm])
  have hst1 := box_touch hst t1 (by simp [o_s.symm])
  have hli1 := box_touch hli t1 (by simp [o_l.symm])
  have hrow1 : (W.setCell ⟨okB, 0, none⟩ (.bool true)).ownsRow base 3 1 v pre.length (ints pre) := ownsRow_setOther hrow (hok.not_row (by decide) hrow) _
  have hsz1 : (W.setCell ⟨okB, 0, none⟩ (.bool true)).heap.size = W.heap.size := by simp [World.setCell]
  have c_ok := hok.cell
  have f_ok := hok.frozen
  have c_en := hen0.cell
  have c_li1 := hli1.cell
  obtain ⟨i0, hi, hz0, hz1, hz2⟩ := info_parts Tryz.infoInt
  have nr_ok := hok1.not_row (by decide) hrow1
  have nr_en := hen1.not_row (by decide) hrow1
  have nr_li := hli1.not_row (by decide) hrow1
  have nr_st : some stB ≠ v.ownBlock := fun e => hap stB e.symm (by simp)
  clear hok hen0 hst hli
  have Hsz1 : Hid ((W.setCell ⟨okB, 0, none⟩ (.bool true)).heap.size = W.heap.size) := hsz1
  clear hsz1
  simp only [List.append_toArray, List.nil_append, List.cons_append]
  go_enter Tryz.func76, Tryz.ntmps76
  go_wp2_with (at_builtin; refine wpList_append_own_at _ rfl _ _ 68 rfl base 3 i0 (.int .i64 0) 1 8 Tryz.underlying68 hi hz0 hz1 hz2 rfl (by decide) _ _ _ rfl (hrow1.alloc _) ⟨W.heap.size, 0, none⟩ 1 1 [.int .i64 x] rfl rfl ?_ (by simp [Value.oneCell']) (by simp [maxLen]; omega) (by omega) (by simp; omega) ?_)
  · have := cell_one_new (W.setCell ⟨okB, 0, none⟩ (.bool true)) (.int .i64 x) 3
    rw [Hsz1.out] at this
    exact this
  intro v' w1 hown' hgrow _ hat
  obtain ⟨g', cap', rfl⟩ := ownsRow_succ hown'
  have b_ok := (hok1.alloc (.cells #[.int .i64 x] 3)).kept hgrow nr_ok
  have b_en := (hen1.alloc (.cells #[.int .i64 x] 3)).kept hgrow nr_en
  have b_li := (hli1.alloc (.cells #[.int .i64 x] 3)).kept hgrow nr_li
  have b_st := (hst1.alloc (.cells #[.int .i64 x] 3)).kept hgrow nr_st
  have a_li := b_li.set (.slice (some ⟨g', 0, none⟩) (pre.length + 1) cap')
  have a_ok := b_ok.other o_l (.slice (some ⟨g', 0, none⟩) (pre.length + 1) cap')
  have a_en := b_en.other e_l (.slice (some ⟨g', 0, none⟩) (pre.length + 1) cap')
  have a_st := b_st.other l_s.symm (.slice (some ⟨g', 0, none⟩) (pre.length + 1) cap')
  have z_li := a_li.other e_l.symm (.bool en')
  have z_ok := a_ok.other hne (.bool en')
  have z_en := a_en.set (.bool en')
  have c1 := b_li.cell
  have f1 := b_li.frozen
  have c2 := a_li.cell
  have c3 := a_st.cell
  have c4 := a_en.cell
  have f4 := a_en.frozen
  have c5 := z_ok.cell
  have c6 := z_en.cell
  have c7 := z_li.cell
  clear b_ok b_en b_li b_st a_li a_ok a_en a_st z_li z_ok z_en hok1 hen1 hst1 hli1
  have hbg : (pre.length : Int) + 1 < 1048576 := by omega
  have hbd : decide ((pre.length : Int) + 1 < 1048576) = true := by simpa using hbg
  cases en'
  · go_wp2
    go_ret
    exact ⟨rfl, _, w1, rfl, hown', hgrow, hat⟩
  · go_wp2
    go_ret
    exact ⟨rfl, _, w1, rfl, hown', hgrow, hat⟩

theorem collect_any (base okB enB lB stB : Nat) (stop x : Int) (K : List Nat) (pre : List Int) (v : Value) (W : World) (h : Col base okB enB lB stB stop K pre false v W) (hbase : base ≤ W.heap.size) (hlen : pre.length < 1000000) (en' : Bool) (hen : ((pre.length : Int) + 1 == stop) = en') :
    Calls Tryz.prog 76 (#[.int .i64 x] ++ #[.pointer (some ⟨okB, 0, none⟩), .pointer (some ⟨enB, 0, none⟩), .pointer (some ⟨lB, 0, none⟩), .pointer (some ⟨stB, 0, none⟩)]) W fun e W' => e = .returned (.bool (!en')) ∧
      ∃ v', Col base okB enB lB stB stop K (pre ++ [x]) en' v' W' ∧ Touch ([okB, enB, lB] ++ v.ownBlock.toList) W W' := by
  refine (collect_core base okB enB lB stB stop x K pre v W h hbase hlen en' hen).mono ?_
  rintro e W' ⟨rfl, v', w1, rfl, hown, hgrow, hat⟩
  obtain ⟨hok, hen0, hst, hli, hrow, hap, hK, hne⟩ := h
  have o_l : okB ≠ lB := boxed_ne hok hli (by decide)
  have o_s : okB ≠ stB := boxed_ne hok hst (by decide)
  have e_l : enB ≠ lB := boxed_ne hen0 hli (by decide)
  have e_s : enB ≠ stB := boxed_ne hen0 hst (by decide)
  have l_s : lB ≠ stB := boxed_ne hli hst (by decide)
  have t1 : Touch [okB] W (W.setCell ⟨okB, 0, none⟩ (.bool true)) := Touch.setCell _ _ _ (by simp)
  have hok1 : Boxed (W.setCell ⟨okB, 0, none⟩ (.bool true)) okB 4 (.bool true) := hok.set _
  have hen1 := box_touch hen0 t1 (by simp [hne.symm])
  have hst1 := box_touch hst t1 (by simp [o_s.symm])
  have hli1 := box_touch hli t1 (by simp [o_l.symm])
  have hrow1 : (W.setCell ⟨okB, 0, none⟩ (.bool true)).ownsRow base 3 1 v pre.length (ints pre) := ownsRow_setOther hrow (hok.not_row (by decide) hrow) _
  have nr_ok := hok1.not_row (by decide) hrow1
  have nr_en := hen1.not_row (by decide) hrow1
  have nr_li := hli1.not_row (by decide) hrow1
  have nr_st : some stB ≠ v.ownBlock := fun e => hap stB e.symm (by simp)
  have b_ok := (hok1.alloc (.cells #[.int .i64 x] 3)).kept hgrow nr_ok
  have b_en := (hen1.alloc (.cells #[.int .i64 x] 3)).kept hgrow nr_en
  have b_li := (hli1.alloc (.cells #[.int .i64 x] 3)).kept hgrow nr_li
  have b_st := (hst1.alloc (.cells #[.int .i64 x] 3)).kept hgrow nr_st
  have hT : Touch ([okB, enB, lB] ++ v.ownBlock.toList) W ((w1.setCell ⟨lB, 0, none⟩ v').setCell ⟨enB, 0, none⟩ (.bool en')) :=
    ((((Touch.setCell _ _ _ (by simp)).trans (Touch.alloc _ _ _)).trans (Touch.grown hgrow (fun k hk => by simp [hk]))).trans (Touch.setCell _ _ _ (by simp))).trans (Touch.setCell _ _ _ (by simp))
  refine ⟨rfl, v', ⟨(b_ok.other o_l v').other hne _, (b_en.other e_l v').set _, (b_st.other l_s.symm v').other e_s.symm _, (b_li.set v').other e_l.symm _, ?_, ?_, ?_, hne⟩, hT⟩
  · simp only [ints, List.length_append, List.length_cons, List.length_nil, Nat.zero_add, List.map_append, List.map_cons, List.map_nil]
    exact ownsRow_setOther (ownsRow_setOther hown (b_li.not_row (by decide) hown) _) ((b_en.other e_l v').not_row (by decide) (ownsRow_setOther hown (b_li.not_row (by decide) hown) _)) _
  · intro k hk
    rcases hat with e | e
    · exact hap k (e ▸ hk)
    · rw [e] at hk; cases hk
      intro hm
      rcases List.mem_cons.1 hm with rfl | hm
      · have := hst.lt; omega
      · have := (hK _ hm).1; omega
  · intro k hk
    have := hK k hk
    exact ⟨Nat.lt_of_lt_of_le this.1 hT.size, this.2⟩

/-- An iterator gone through by the closure. -/
theorem walk_col (fz Bl okB enB lB stB : Nat) (stop : Int) (xs : List Int) (W : World) (hw : Walked Tryz.prog fz Bl xs W) (hlen : xs.length < 1000000)
    (hok : Boxed W okB 4 (.bool true)) (hen : Boxed W enB 4 (.bool false)) (hst : Boxed W stB 3 (.int .i64 stop)) (hli : Boxed W lB 68 (.slice none 0 0)) (hne : okB ≠ enB) :
    Calls Tryz.prog fz #[.func (.func 76) #[] #[.pointer (some ⟨okB, 0, none⟩), .pointer (some ⟨enB, 0, none⟩), .pointer (some ⟨lB, 0, none⟩), .pointer (some ⟨stB, 0, none⟩)], .pointer (some ⟨Bl, 0, none⟩)] W fun e W' => (∃ r, e = .returned r) ∧
      ∃ v, Boxed W' okB 4 (.bool true) ∧ Boxed W' lB 68 v ∧ Boxed W' stB 3 (.int .i64 stop) ∧ W'.ownsRow W.heap.size 3 1 v (cutTo xs.length stop) (ints (xs.take (cutTo xs.length stop))) ∧ Touch [okB, enB, lB] W W' := by
  have hK0 : ∀ g, W.heap.size ≤ g → g ≠ okB ∧ g ≠ enB ∧ g ≠ lB := fun g hg => ⟨by have := hok.lt; omega, by have := hen.lt; omega, by have := hli.lt; omega⟩
  refine (hw 76 _ (fun g pre W2 => W.heap.size ≤ g ∧ ¬ (1 ≤ stop ∧ stop ≤ pre.length) ∧ Touch [okB, enB, lB] W W2 ∧ ∃ v, Col W.heap.size okB enB lB stB stop [g] pre false v W2)
    (fun g pre W2 => (pre.length : Int) = stop ∧ 1 ≤ stop ∧ Touch [okB, enB, lB] W W2 ∧ ∃ v, Col W.heap.size okB enB lB stB stop [g] pre true v W2) (enters_of Tryz.func76 (by kernel_rfl) rfl) ?_ ?_).mono ?_
  · intro g W1 hB hg hg1
    have hT : Touch [okB, enB, lB] W W1 := Touch.of_below hB _
    have kb : ∀ {B t v}, Boxed W B t v → Boxed W1 B t v := fun h => (hB.block _ h.lt).trans h
    refine ⟨hg, by simp; omega, hT, _, kb hok, kb hen, kb hst, kb hli, World.ownsRow_nil _ _ _ _, by simp [Value.ownBlock], ?_, hne⟩
    intro k hk
    simp only [List.mem_singleton] at hk
    subst hk
    exact ⟨hg1, hK0 _ hg⟩
  · rintro g pre x W2 ⟨hg, hns, hT, v, hC⟩ hpre
    have hpl : pre.length < 1000000 := by have := hpre.length_le; simp at this; omega
    refine (collect_any W.heap.size okB enB lB stB stop x [g] pre v W2 hC hT.size hpl ((pre.length : Int) + 1 == stop) rfl).mono ?_
    rintro e W3 ⟨rfl, v', hC', hT'⟩
    have hT2 : Touch [okB, enB, lB] W W3 := hT.then hT' (fun k hk => by
      rcases List.mem_append.1 hk with h | h
      · exact .inl h
      · exact .inr (hC.row.lt k (by simpa using h)).1)
    refine ⟨hT'.block g (hC.inK g (by simp)).1 ?_, ?_⟩
    · intro hm
      rcases List.mem_append.1 hm with h | h
      · have := (hC.inK g (by simp)).2; simp at h; omega
      · exact hC.apart g (by simpa using h) (by simp)
    · by_cases hs : (pre.length : Int) + 1 = stop
      · refine .inr ⟨by simp [hs], by simp; omega, by omega, hT2, v', ?_⟩
        have e1 : ((pre.length : Int) + 1 == stop) = true := by simpa using hs
        rw [e1] at hC'; exact hC'
      · refine .inl ⟨by simp [hs], hg, by simp; omega, hT2, v', ?_⟩
        have e1 : ((pre.length : Int) + 1 == stop) = false := by simpa using hs
        rw [e1] at hC'; exact hC'
  · rintro e W' ⟨hr, g, ⟨hg, hns, hT, v, hC⟩ | ⟨pre, hpre, hl, h1, hT, v, hC⟩⟩
    · have hc : cutTo xs.length stop = xs.length := by unfold cutTo; rw [if_neg (by omega)]
      refine ⟨hr, v, hC.ok, hC.li, hC.st, ?_, hT⟩
      rw [hc, List.take_length]; exact hC.row
    · have hle := hpre.length_le
      have hc : cutTo xs.length stop = pre.length := by
        unfold cutTo
        split
        · omega
        · omega
      refine ⟨hr, v, hC.ok, hC.li, hC.st, ?_, hT⟩
      rw [hc, ← List.prefix_iff_eq_take.1 hpre]; exact hC.row

end Go.Proofs.YtcjblafohfiiaabGreat
