/-
  tabled: a table gone through within itself.
-/
import Derived.Test.YtcjblafohfiiaaaWt
set_option linter.unusedVariables false
namespace Go.Proofs.Ytcjblafohfiiaaa
open Go.RowKit Go.Shelf

abbrev seqP (Bl : Nat) : Value := .func (.func 48) #[] #[.pointer (some ⟨Bl, 0, none⟩)]

/-- The keys 0 to n - 1, and their words. -/
def keysTo (n : Nat) : List Int := (List.range n).map (fun i : Nat => (i : Int))
def wordsTo (n : Nat) : List Int := (List.range n).map (fun i : Nat => (i : Int) + 3)

@[simp] theorem keysTo_length (n : Nat) : (keysTo n).length = n := by simp [keysTo]
@[simp] theorem wordsTo_length (n : Nat) : (wordsTo n).length = n := by simp [wordsTo]
theorem keysTo_at {n j : Nat} {x : Int} (h : (keysTo n)[j]? = some x) : x = j ∧ j < n := by
  have hj := (List.getElem?_eq_some_iff.1 h).1
  simp [keysTo] at hj
  simp [keysTo, hj] at h
  exact ⟨h.symm, hj⟩
theorem wordsTo_at {n j : Nat} {x : Int} (h : (wordsTo n)[j]? = some x) : x = (j : Int) + 3 := by
  have hj := (List.getElem?_eq_some_iff.1 h).1
  simp [wordsTo] at hj
  simp [wordsTo, hj] at h
  exact h.symm

set_option maxHeartbeats 2000000 in
theorem tabled11_core (okB mB j : Nat) (W : World) (hok : Boxed W okB 4 (.bool true)) (hm : Boxed W mB 3 (.int .i64 j)) (hj : j < 1000000) :
    Calls Try.prog 60 (#[.int .i64 j, .int .u64 ((j : Int) + 3)] ++ #[.pointer (some ⟨okB, 0, none⟩), .pointer (some ⟨mB, 0, none⟩)]) W fun e W' => e = .returned (.bool true) ∧
      W' = (W.setCell ⟨okB, 0, none⟩ (.bool true)).setCell ⟨mB, 0, none⟩ (.int .i64 ((j : Int) + 1)) := by
  have m_o : mB ≠ okB := boxed_ne hm hok (by decide)
  have c1 := hok.cell
  have f1 := hok.frozen
  have c2 := hm.cell
  have f2 := (hm.other m_o (.bool true)).frozen
  simp only [List.append_toArray, List.nil_append, List.cons_append]
  go_enter Try.func60, Try.ntmps60
  go_wp2
  go_ret
  exact ⟨rfl, rfl⟩

theorem walk_11 (Bl okB mB size : Nat) (W : World) (hs : size < 1000000) (hw : WalkedP Try.prog 48 Bl (keysTo size) (wordsTo size) W) (hok : Boxed W okB 4 (.bool true)) (hm : Boxed W mB 3 (.int .i64 ((0 : Nat) : Int))) :
    Calls Try.prog 48 #[.func (.func 60) #[] #[.pointer (some ⟨okB, 0, none⟩), .pointer (some ⟨mB, 0, none⟩)], .pointer (some ⟨Bl, 0, none⟩)] W fun e W' => (∃ r, e = .returned r) ∧
      Boxed W' okB 4 (.bool true) ∧ Boxed W' mB 3 (.int .i64 size) ∧ Touch [okB, mB] W W' := by
  have hlo := hok.lt
  have hlm := hm.lt
  have m_o : mB ≠ okB := boxed_ne hm hok (by decide)
  refine (hw 60 _ (fun g h j W2 => W.heap.size ≤ g ∧ g < W2.heap.size ∧ W.heap.size ≤ h ∧ h < W2.heap.size ∧ Touch [okB, mB] W W2 ∧ Boxed W2 okB 4 (.bool true) ∧ Boxed W2 mB 3 (.int .i64 j)) (fun g h j W2 => False) (enters_of Try.func60 (by kernel_rfl) rfl) ?_ ?_).mono ?_
  · intro g h W1 hB1 hg hg1 hh hh1
    have hT : Touch [] W W1 := Touch.of_below hB1 _
    exact ⟨hg, hg1, hh, hh1, hT.mono (by simp), box_touch hok hT (by simp), box_touch hm hT (by simp)⟩
  · rintro g h j x v W2 ⟨hg, hg2, hh, hh2, hT, ho, hm2⟩ hx hv
    obtain ⟨rfl, hj⟩ := keysTo_at hx
    obtain rfl := wordsTo_at hv
    refine (tabled11_core okB mB j W2 ho hm2 (by omega)).mono ?_
    rintro e W3 ⟨rfl, rfl⟩
    have hT3 : Touch [okB, mB] W2 ((W2.setCell ⟨okB, 0, none⟩ (.bool true)).setCell ⟨mB, 0, none⟩ (.int .i64 ((j : Int) + 1))) := (Touch.setCell _ _ _ (by simp)).trans (Touch.setCell _ _ _ (by simp))
    refine ⟨hT3.block g hg2 (by simp; omega), hT3.block h hh2 (by simp; omega), .inl ⟨rfl, hg, Nat.lt_of_lt_of_le hg2 hT3.size, hh, Nat.lt_of_lt_of_le hh2 hT3.size, hT.trans hT3, (ho.set _).other m_o.symm _, ?_⟩⟩
    simpa using (hm2.other m_o (.bool true)).set (.int .i64 ((j : Int) + 1))
  · rintro e W' ⟨hr, g, h, ⟨-, -, -, -, hT, ho, hm'⟩ | ⟨j, hj, hf⟩⟩
    · rw [keysTo_length] at hm'
      exact ⟨hr, ho, hm', hT⟩
    · exact hf.elim

/-- The outer closure's variables, and the iterator's own. -/
structure Tb (okB nB sB zB Bl bt k size : Nat) (W : World) : Prop where
  ok : Boxed W okB 4 (.bool true)
  n : Boxed W nB 3 (.int .i64 k)
  s : Boxed W sB 44 (seqP Bl)
  z : Boxed W zB 3 (.int .i64 size)
  l : Boxed W Bl 38 (.pointer (some ⟨bt, 0, none⟩))
  ne : nB ≠ zB

theorem Tb.touch {okB nB sB zB Bl bt k size : Nat} {W W' : World} {F : List Nat} (h : Tb okB nB sB zB Bl bt k size W) (ht : Touch F W W') (h1 : okB ∉ F) (h2 : nB ∉ F) (h3 : sB ∉ F) (h4 : zB ∉ F) (h5 : Bl ∉ F) : Tb okB nB sB zB Bl bt k size W' :=
  ⟨box_touch h.ok ht h1, box_touch h.n ht h2, box_touch h.s ht h3, box_touch h.z ht h4, box_touch h.l ht h5, h.ne⟩

theorem Tb.setOk {okB nB sB zB Bl bt k size : Nat} {W : World} (h : Tb okB nB sB zB Bl bt k size W) : Tb okB nB sB zB Bl bt k size (W.setCell ⟨okB, 0, none⟩ (.bool true)) :=
  ⟨h.ok.set _, h.n.other (boxed_ne h.n h.ok (by decide)) _, h.s.other (boxed_ne h.s h.ok (by decide)) _, h.z.other (boxed_ne h.z h.ok (by decide)) _, h.l.other (boxed_ne h.l h.ok (by decide)) _, h.ne⟩

theorem Tb.setN {okB nB sB zB Bl bt k size : Nat} {W : World} (h : Tb okB nB sB zB Bl bt k size W) (k' : Nat) : Tb okB nB sB zB Bl bt k' size (W.setCell ⟨nB, 0, none⟩ (.int .i64 k')) :=
  ⟨h.ok.other (boxed_ne h.ok h.n (by decide)) _, h.n.set _, h.s.other (boxed_ne h.s h.n (by decide)) _, h.z.other h.ne.symm _, h.l.other (boxed_ne h.l h.n (by decide)) _, h.ne⟩

set_option maxHeartbeats 2000000 in
theorem tabled1_core (okB nB sB zB Bl bt k size : Nat) (W : World) (h : Tb okB nB sB zB Bl bt k size W) (hk : k < size) (hs : size < 1000000)
    (hw : ∀ W', Touch [okB, nB] W W' → WalkedP Try.prog 48 Bl (keysTo size) (wordsTo size) W') :
    Calls Try.prog 59 (#[.int .i64 k, .int .u64 ((k : Int) + 3)] ++ #[.pointer (some ⟨okB, 0, none⟩), .pointer (some ⟨nB, 0, none⟩), .pointer (some ⟨sB, 0, none⟩), .pointer (some ⟨zB, 0, none⟩)]) W fun e W' => e = .returned (.bool true) ∧
      Tb okB nB sB zB Bl bt (k + 1) size W' ∧ Touch [okB, nB] W W' := by
  have n_o : nB ≠ okB := boxed_ne h.n h.ok (by decide)
  have s_o : sB ≠ okB := boxed_ne h.s h.ok (by decide)
  have s_n : sB ≠ nB := boxed_ne h.s h.n (by decide)
  have h0o := h.ok.cell
  have h0f := h.ok.frozen
  have h0n := h.n.cell
  have h0s := h.s.cell
  have h1 := h.setOk
  have f1n := h1.n.frozen
  have h2 := h1.setN (k + 1)
  have e2 : Hid (Value.int .i64 ((k + 1 : Nat) : Int) = .int .i64 ((k : Int) + 1)) := by show _ = _; simp
  rw [e2.out] at h2
  have t2 : Touch [okB, nB] W ((W.setCell ⟨okB, 0, none⟩ (.bool true)).setCell ⟨nB, 0, none⟩ (.int .i64 ((k : Int) + 1))) := (Touch.setCell _ _ _ (by simp)).trans (Touch.setCell _ _ _ (by simp))
  have z2 : ((W.setCell ⟨okB, 0, none⟩ (.bool true)).setCell ⟨nB, 0, none⟩ (.int .i64 ((k : Int) + 1))).heap.size = W.heap.size := by simp [World.setCell]
  have H2 : Hid (Tb okB nB sB zB Bl bt (k + 1) size ((W.setCell ⟨okB, 0, none⟩ (.bool true)).setCell ⟨nB, 0, none⟩ (.int .i64 ((k : Int) + 1)))) := h2
  have bM := Boxed.new ((W.setCell ⟨okB, 0, none⟩ (.bool true)).setCell ⟨nB, 0, none⟩ (.int .i64 ((k : Int) + 1))) 3 (.int .i64 ((0 : Nat) : Int))
  rw [z2] at bM
  have t3 := t2.trans (Touch.alloc [okB, nB] ((W.setCell ⟨okB, 0, none⟩ (.bool true)).setCell ⟨nB, 0, none⟩ (.int .i64 ((k : Int) + 1))) (.cells #[.int .i64 ((0 : Nat) : Int)] 3))
  have hgo := walk_11 Bl okB W.heap.size size _ hs (hw _ t3) (h2.ok.alloc _) bM
  have H2a := h2.touch (Touch.alloc [] _ (.cells #[.int .i64 ((0 : Nat) : Int)] 3)) (by simp) (by simp) (by simp) (by simp) (by simp)
  have lt1 := h.ok.lt
  have lt2 := h.n.lt
  have lt3 := h.s.lt
  have lt4 := h.z.lt
  have lt5 := h.l.lt
  have s_o' := s_o
  have z_o : zB ≠ okB := boxed_ne h.z h.ok (by decide)
  have l_o : Bl ≠ okB := boxed_ne h.l h.ok (by decide)
  have Hgo : Hid (Calls Try.prog 48 #[.func (.func 60) #[] #[.pointer (some ⟨okB, 0, none⟩), .pointer (some ⟨W.heap.size, 0, none⟩)], .pointer (some ⟨Bl, 0, none⟩)] _ _) := hgo
  have HH : Hid (Tb okB nB sB zB Bl bt (k + 1) size _) := H2a
  have HT : Hid (Touch [okB, nB] W _) := t3
  have HZ : Hid (_ = W.heap.size) := z2
  clear h1 h2 hw hgo H2a bM t3 h z2
  simp only [List.append_toArray, List.nil_append, List.cons_append]
  go_enter Try.func59, Try.ntmps59
  by_cases h3 : (k : Int) + 1 ≤ 3
  · go_wp2_with fail
    refine Hgo.out.mono ?_
    rintro e W5 ⟨⟨r, rfl⟩, ho5, hm5, hT5⟩
    have h5 : Tb okB nB sB zB Bl bt (k + 1) size W5 := ⟨ho5, box_touch HH.out.n hT5 (by simp; omega), box_touch HH.out.s hT5 (by simp; omega), box_touch HH.out.z hT5 (by simp; omega), box_touch HH.out.l hT5 (by simp; omega), HH.out.ne⟩
    have t5 : Touch [okB, nB] W W5 := HT.out.then hT5 (fun x hx => by simp at hx; rcases hx with rfl | rfl; exact .inl (by simp); exact .inr (Nat.le_refl _))
    have c5o := h5.ok.cell
    have f5o := h5.ok.frozen
    have c5m := hm5.cell
    have c5z := h5.z.cell
    have H5 : Hid (Tb okB nB sB zB Bl bt (k + 1) size W5) := h5
    clear h5 hT5 ho5 hm5 Hgo HH HT HZ H2 t2 e2 h0o h0f h0n h0s f1n
    go_wp2
    go_ret
    exact ⟨rfl, H5.out.setOk, t5.trans (Touch.setCell _ _ _ (by simp))⟩
  · clear Hgo HH HT
    go_wp2
    go_ret
    exact ⟨rfl, H2.out, t2⟩

theorem walk_1 (Bl okB nB sB zB bt size : Nat) (w0 W : World) (hs : size < 1000000) (hB : Below w0.heap.size w0 W) (ho : w0.heap.size ≤ okB) (hn : w0.heap.size ≤ nB)
    (hw : ∀ W', Below w0.heap.size w0 W' → Boxed W' Bl 38 (.pointer (some ⟨bt, 0, none⟩)) → WalkedP Try.prog 48 Bl (keysTo size) (wordsTo size) W') (h : Tb okB nB sB zB Bl bt 0 size W) :
    Calls Try.prog 48 #[.func (.func 59) #[] #[.pointer (some ⟨okB, 0, none⟩), .pointer (some ⟨nB, 0, none⟩), .pointer (some ⟨sB, 0, none⟩), .pointer (some ⟨zB, 0, none⟩)], .pointer (some ⟨Bl, 0, none⟩)] W fun e W' => (∃ r, e = .returned r) ∧
      Tb okB nB sB zB Bl bt size size W' ∧ Touch [okB, nB] W W' := by
  have hlo := h.ok.lt
  have hln := h.n.lt
  refine (hw W hB h.l 59 _ (fun g h j W2 => W.heap.size ≤ g ∧ g < W2.heap.size ∧ W.heap.size ≤ h ∧ h < W2.heap.size ∧ Touch [okB, nB] W W2 ∧ Tb okB nB sB zB Bl bt j size W2) (fun g h j W2 => False) (enters_of Try.func59 (by kernel_rfl) rfl) ?_ ?_).mono ?_
  · intro g h' W1 hB1 hg hg1 hh hh1
    have hT : Touch [] W W1 := Touch.of_below hB1 _
    exact ⟨hg, hg1, hh, hh1, hT.mono (by simp), h.touch hT (by simp) (by simp) (by simp) (by simp) (by simp)⟩
  · rintro g h' j x v W2 ⟨hg, hg2, hh, hh2, hT, hI⟩ hx hv
    obtain ⟨rfl, hj⟩ := keysTo_at hx
    obtain rfl := wordsTo_at hv
    have hB2 : Below w0.heap.size w0 W2 := hB.trans (hT.below hB.size (fun k hk => by simp at hk; omega))
    have l_o : Bl ≠ okB := boxed_ne hI.l hI.ok (by decide)
    have l_n : Bl ≠ nB := boxed_ne hI.l hI.n (by decide)
    refine (tabled1_core okB nB sB zB Bl bt j size W2 hI hj hs (fun W3 hT3 => hw W3 (hB2.trans (hT3.below hB2.size (fun k hk => by simp at hk; omega))) (box_touch hI.l hT3 (by simp [l_o, l_n])))).mono ?_
    rintro e W3 ⟨rfl, hI3, hT3⟩
    exact ⟨hT3.block g hg2 (by simp; omega), hT3.block h' hh2 (by simp; omega), .inl ⟨rfl, hg, Nat.lt_of_lt_of_le hg2 hT3.size, hh, Nat.lt_of_lt_of_le hh2 hT3.size, hT.trans hT3, hI3⟩⟩
  · rintro e W' ⟨hr, g, h', ⟨-, -, -, -, hT, hI⟩ | ⟨j, hj, hf⟩⟩
    · rw [keysTo_length] at hI
      exact ⟨hr, hI, hT⟩
    · exact hf.elim

theorem allT_any (bt : Nat) (w : World) :
    Calls Try.prog 21 #[.pointer (some ⟨bt, 0, none⟩)] w fun e w' => e = .returned (seqP w.heap.size) ∧ w' = w.alloc (.cells #[.pointer (some ⟨bt, 0, none⟩)] 38) := by
  go_enter Try.func21, Try.ntmps21
  go_wp2
  go_ret
  exact ⟨rfl, rfl⟩

theorem run_store_func (P : Program) (w : World) (a : Addr) (m : Mode) (f : Fn) (x y : Array Value) : (store a (.func f x y) m).run P w = stored P w a (.func f x y) m := run_store P w a _ m rfl
attribute [local go_sem] run_store_func

set_option maxHeartbeats 2000000 in
theorem tabled_any (bt size : Nat) (w : World) (hs : size < 1000000)
    (hw : ∀ Bl W', Below w.heap.size w W' → Boxed W' Bl 38 (.pointer (some ⟨bt, 0, none⟩)) → WalkedP Try.prog 48 Bl (keysTo size) (wordsTo size) W') :
    Calls Try.prog 32 #[.pointer (some ⟨bt, 0, none⟩), .int .i64 size] w fun e w' => e = .returned (.bool true) ∧ Below w.heap.size w w' := by
  obtain ⟨W1, HW1⟩ : ∃ W1, Hid (W1 = ((w.alloc (.cells #[.int .i64 size] 3)).alloc (.cells #[.int .i64 0] 3)).alloc (.cells #[.bool true] 4)) := ⟨_, rfl⟩
  have Z1 : Hid (W1.heap.size = w.heap.size + 3) := by show _ = _; rw [HW1.out]; simp
  go_enter Try.func32, Try.ntmps32
  go_wp2_with fail
  rw [← HW1.out]
  refine (allT_any _ _).mono ?_
  rintro e w' ⟨rfl, rfl⟩
  have b1 := Boxed.new w 3 (.int .i64 size)
  have b2 := Boxed.new (w.alloc (.cells #[.int .i64 size] 3)) 3 (.int .i64 ((0 : Nat) : Int))
  have b3 := Boxed.new ((w.alloc (.cells #[.int .i64 size] 3)).alloc (.cells #[.int .i64 0] 3)) 4 (.bool true)
  have b4 := Boxed.new W1 38 (.pointer (some ⟨bt, 0, none⟩))
  have b5 := Boxed.new (W1.alloc (.cells #[.pointer (some ⟨bt, 0, none⟩)] 38)) 44 (seqP W1.heap.size)
  have b1' := (b1.alloc (.cells #[.int .i64 0] 3)).alloc (.cells #[.bool true] 4)
  have b2' := b2.alloc (.cells #[.bool true] 4)
  have hBa : Below w.heap.size w (((w.alloc (.cells #[.int .i64 size] 3)).alloc (.cells #[.int .i64 0] 3)).alloc (.cells #[.bool true] 4)) :=
    ((((Below.refl _ w).alloc (Nat.le_refl _) _).alloc (by simp) _).alloc (by simp; omega) _)
  simp only [World.size_alloc] at b2' b3 b5
  rw [← HW1.out] at b1' hBa
  have b2'' : Boxed W1 (w.heap.size + 1) 3 (.int .i64 ((0 : Nat) : Int)) := by rw [HW1.out]; exact b2'
  have b3' : Boxed W1 (w.heap.size + 1 + 1) 4 (.bool true) := by rw [HW1.out]; exact b3
  have hI : Tb (w.heap.size + 1 + 1) (w.heap.size + 1) (W1.heap.size + 1) w.heap.size W1.heap.size bt 0 size ((W1.alloc (.cells #[.pointer (some ⟨bt, 0, none⟩)] 38)).alloc (.cells #[seqP W1.heap.size] 44)) :=
    ⟨(b3'.alloc _).alloc _, (b2''.alloc _).alloc _, b5, (b1'.alloc _).alloc _, b4.alloc _, by omega⟩
  have hBb : Below w.heap.size w ((W1.alloc (.cells #[.pointer (some ⟨bt, 0, none⟩)] 38)).alloc (.cells #[seqP W1.heap.size] 44)) := (hBa.alloc hBa.size _).alloc (by have := hBa.size; simp; omega) _
  have hgo := walk_1 W1.heap.size _ _ _ _ bt size w _ hs hBb (by omega) (by omega) (hw _) hI
  have Hgo : Hid (Calls Try.prog 48 #[.func (.func 59) #[] #[.pointer (some ⟨w.heap.size + 1 + 1, 0, none⟩), .pointer (some ⟨w.heap.size + 1, 0, none⟩), .pointer (some ⟨W1.heap.size + 1, 0, none⟩), .pointer (some ⟨w.heap.size, 0, none⟩)], .pointer (some ⟨W1.heap.size, 0, none⟩)] _ _) := hgo
  clear b1 b2 b3 b4 b5 b1' b2' b2'' b3' hI hgo hBa hw
  go_wp2_with fail
  refine Hgo.out.mono ?_
  rintro e w' ⟨⟨r, rfl⟩, hI, hT⟩
  have c1 := hI.ok.cell
  have c2 := hI.n.cell
  have c3 := hI.z.cell
  have hB : Below w.heap.size w w' := hBb.trans (hT.below hBb.size (fun k hk => by simp at hk; omega))
  clear hBb hT hI Hgo
  go_wp2
  go_ret
  exact ⟨rfl, hB⟩

end Go.Proofs.Ytcjblafohfiiaaa
