/-
  inside: an iterator of numbers gone through within itself.
-/
import Derived.Test.YtcjblafohfiiaaaIn
import Derived.Test.YtcjblafohfiiaaaBt
set_option linter.unusedVariables false
namespace Go.Proofs.Ytcjblafohfiiaaa
open Go.RowKit Go.Shelf

abbrev seqV (Bl : Nat) : Value := .func (.func 71) #[] #[.pointer (some ⟨Bl, 0, none⟩)]

/-- The closure's variables. -/
structure Ins (okB nB lB sB Bl k : Nat) (lv : Value) (W : World) : Prop where
  ok : Boxed W okB 4 (.bool true)
  n : Boxed W nB 3 (.int .i64 k)
  l : Boxed W lB 22 lv
  s : Boxed W sB 51 (seqV Bl)

theorem Ins.touch {okB nB lB sB Bl k : Nat} {lv : Value} {W W' : World} {F : List Nat} (h : Ins okB nB lB sB Bl k lv W) (ht : Touch F W W') (h1 : okB ∉ F) (h2 : nB ∉ F) (h3 : lB ∉ F) (h4 : sB ∉ F) : Ins okB nB lB sB Bl k lv W' :=
  ⟨box_touch h.ok ht h1, box_touch h.n ht h2, box_touch h.l ht h3, box_touch h.s ht h4⟩

theorem Ins.setOk {okB nB lB sB Bl k : Nat} {lv : Value} {W : World} (h : Ins okB nB lB sB Bl k lv W) : Ins okB nB lB sB Bl k lv (W.setCell ⟨okB, 0, none⟩ (.bool true)) :=
  ⟨h.ok.set _, h.n.other (boxed_ne h.n h.ok (by decide)) _, h.l.other (boxed_ne h.l h.ok (by decide)) _, h.s.other (boxed_ne h.s h.ok (by decide)) _⟩

theorem Ins.setN {okB nB lB sB Bl k : Nat} {lv : Value} {W : World} (h : Ins okB nB lB sB Bl k lv W) (k' : Nat) : Ins okB nB lB sB Bl k' lv (W.setCell ⟨nB, 0, none⟩ (.int .i64 k')) :=
  ⟨h.ok.other (boxed_ne h.ok h.n (by decide)) _, h.n.set _, h.l.other (boxed_ne h.l h.n (by decide)) _, h.s.other (boxed_ne h.s h.n (by decide)) _⟩

set_option maxHeartbeats 2000000 in
theorem inside1_core (okB nB lB sB Bl b off cap k : Nat) (x : Int) (xs : List Int) (W : World) (h : Ins okB nB lB sB Bl k (.slice (some ⟨b, off, none⟩) xs.length cap) W)
    (hc : W.cell? ⟨b, off + k, none⟩ = some (.int .i64 x)) (hk : k < xs.length) (hlen : xs.length < 1000000)
    (hints : ∀ W', Touch [okB, nB] W W' → Calls Try.prog 57 #[seqV Bl, .int .i64 0] W' fun e w' => ∃ v, e = .returned (.tuple #[v, .bool true]) ∧ Below W'.heap.size W' w' ∧ Calls Try.prog 58 #[v, .slice (some ⟨b, off, none⟩) xs.length cap] w' fun e w'' => e = .returned (.bool true) ∧ ∃ nq, w'' = w'.drewN nq) :
    Calls Try.prog 56 (#[.int .i64 x] ++ #[.pointer (some ⟨okB, 0, none⟩), .pointer (some ⟨nB, 0, none⟩), .pointer (some ⟨lB, 0, none⟩), .pointer (some ⟨sB, 0, none⟩)]) W fun e W' => e = .returned (.bool true) ∧
      Ins okB nB lB sB Bl (k + 1) (.slice (some ⟨b, off, none⟩) xs.length cap) W' ∧ Touch [okB, nB] W W' := by
  have n_o : nB ≠ okB := boxed_ne h.n h.ok (by decide)
  have hki : (k : Int) < xs.length := by omega
  have h0o := h.ok.cell
  have h0f := h.ok.frozen
  have h0n := h.n.cell
  have h0l := h.l.cell
  have h0s := h.s.cell
  have s_o : sB ≠ okB := boxed_ne h.s h.ok (by decide)
  have s_n : sB ≠ nB := boxed_ne h.s h.n (by decide)
  have h1 := h.setOk
  have f1n := h1.n.frozen
  have h2 := h1.setN (k + 1)
  have e2 : Hid (Value.int .i64 ((k + 1 : Nat) : Int) = .int .i64 ((k : Int) + 1)) := by show _ = _; simp
  rw [e2.out] at h2
  have t2 : Touch [okB, nB] W ((W.setCell ⟨okB, 0, none⟩ (.bool true)).setCell ⟨nB, 0, none⟩ (.int .i64 ((k : Int) + 1))) := (Touch.setCell _ _ _ (by simp)).trans (Touch.setCell _ _ _ (by simp))
  have H2 : Hid (Ins okB nB lB sB Bl (k + 1) (.slice (some ⟨b, off, none⟩) xs.length cap) ((W.setCell ⟨okB, 0, none⟩ (.bool true)).setCell ⟨nB, 0, none⟩ (.int .i64 ((k : Int) + 1)))) := h2
  clear h1 h2
  have HW : Hid (Ins okB nB lB sB Bl k (.slice (some ⟨b, off, none⟩) xs.length cap) W) := h
  have Hi : Hid (∀ W', Touch [okB, nB] W W' → Calls Try.prog 57 #[seqV Bl, .int .i64 0] W' fun e w' => ∃ v, e = .returned (.tuple #[v, .bool true]) ∧ Below W'.heap.size W' w' ∧ Calls Try.prog 58 #[v, .slice (some ⟨b, off, none⟩) xs.length cap] w' fun e w'' => e = .returned (.bool true) ∧ ∃ nq, w'' = w'.drewN nq) := hints
  clear hints
  simp only [List.append_toArray, List.nil_append, List.cons_append]
  go_enter Try.func56, Try.ntmps56
  by_cases h3 : (k : Int) + 1 ≤ 3
  · go_wp2_with fail
    refine (Hi.out _ t2).mono ?_
    rintro e w' ⟨v, rfl, hB, hsame⟩
    have t3 := t2.trans (Touch.of_below hB _)
    have h3' := H2.out.touch (F := []) (Touch.of_below hB _) (by simp) (by simp) (by simp) (by simp)
    have c3o := h3'.ok.cell
    have f3o := h3'.ok.frozen
    have c3l := h3'.l.cell
    have H3 : Hid (Ins okB nB lB sB Bl (k + 1) (.slice (some ⟨b, off, none⟩) xs.length cap) w') := h3'
    clear h h3' H2 t2 h0o h0f h0n h0l h0s hB hc f1n
    go_wp2_with fail
    refine hsame.mono ?_
    rintro e w'' ⟨rfl, nq, rfl⟩
    go_wp2
    go_ret
    exact ⟨rfl, (H3.out.touch (Touch.drewN [] _ nq) (by simp) (by simp) (by simp) (by simp)).setOk, (t3.trans (Touch.drewN _ _ _)).trans (Touch.setCell _ _ _ (by simp))⟩
  · go_wp2
    go_ret
    exact ⟨rfl, H2.out, t2⟩

theorem walk_ins (Bl okB nB lB sB cap : Nat) (a : Option Addr) (xs : List Int) (w0 W : World) (hlen : xs.length < 1000000) (hB : Below w0.heap.size w0 W) (ho : w0.heap.size ≤ okB) (hn : w0.heap.size ≤ nB)
    (hw : ∀ W', Below w0.heap.size w0 W' → Walked Try.prog 71 Bl xs W') (hl : Lists w0 a xs) (h : Ins okB nB lB sB Bl 0 (.slice a xs.length cap) W) :
    Calls Try.prog 71 #[.func (.func 56) #[] #[.pointer (some ⟨okB, 0, none⟩), .pointer (some ⟨nB, 0, none⟩), .pointer (some ⟨lB, 0, none⟩), .pointer (some ⟨sB, 0, none⟩)], .pointer (some ⟨Bl, 0, none⟩)] W fun e W' => (∃ r, e = .returned r) ∧
      Ins okB nB lB sB Bl xs.length (.slice a xs.length cap) W' ∧ Touch [okB, nB] W W' := by
  have hlo := h.ok.lt
  have hln := h.n.lt
  refine (hw W hB 56 _ (fun g pre W2 => W.heap.size ≤ g ∧ g < W2.heap.size ∧ Touch [okB, nB] W W2 ∧ Ins okB nB lB sB Bl pre.length (.slice a xs.length cap) W2) (fun g pre W2 => False) (enters_of Try.func56 (by kernel_rfl) rfl) ?_ ?_).mono ?_
  · intro g W1 hB1 hg hg1
    have hT : Touch [] W W1 := Touch.of_below hB1 _
    exact ⟨hg, hg1, hT.mono (by simp), h.touch hT (by simp) (by simp) (by simp) (by simp)⟩
  · rintro g pre x W2 ⟨hg, hg2, hT, hI⟩ hpre
    have hx : xs[pre.length]? = some x := by obtain ⟨t, rfl⟩ := hpre; simp
    have hpl : pre.length < xs.length := (List.getElem?_eq_some_iff.1 hx).1
    obtain ⟨b, off, rfl, hb, hc⟩ := hl _ x hx
    have hB2 : Below w0.heap.size w0 W2 := hB.trans (hT.below hB.size (fun k hk => by simp at hk; omega))
    refine (inside1_core okB nB lB sB Bl b off cap pre.length x xs W2 hI ((hB2.cell (p := ⟨b, off + pre.length, none⟩) hb).trans hc) hpl hlen ?_).mono ?_
    · intro W3 hT3
      have hB3 : Below w0.heap.size w0 W3 := hB2.trans (hT3.below hB2.size (fun k hk => by simp at hk; omega))
      refine (ints_any Bl 0 xs W3 hlen (fun W4 hB4 => hw W4 (hB3.trans (hB4.mono hB3.size)))).mono ?_
      rintro e W4 ⟨v, rfl, hr, hB4⟩
      have hcut : cutTo xs.length 0 = xs.length := by simp [cutTo]
      rw [hcut, List.take_length] at hr
      refine ⟨v, rfl, hB4, sameInts_any v _ W4.heap.size w0.heap.size xs W4 hlen (slice_of_row hr rfl (Nat.le_refl _)) (.inr ⟨b, off, cap, rfl, hb, fun j y hj => ?_⟩)⟩
      obtain ⟨b', off', he, -, hc'⟩ := hl j y hj
      simp only [Option.some.injEq, Addr.mk.injEq, and_true] at he
      obtain ⟨rfl, rfl⟩ := he
      exact ((hB3.trans (hB4.mono hB3.size)).cell (p := ⟨b, off + j, none⟩) hb).trans hc'
    · rintro e W3 ⟨rfl, hI3, hT3⟩
      refine ⟨hT3.block g hg2 (by simp; omega), .inl ⟨rfl, hg, Nat.lt_of_lt_of_le hg2 hT3.size, hT.trans hT3, ?_⟩⟩
      simpa using hI3
  · rintro e W' ⟨hr, g, ⟨hg, hg2, hT, hI⟩ | ⟨pre, hpre, hf⟩⟩
    · exact ⟨hr, hI, hT⟩
    · exact hf.elim

set_option maxHeartbeats 2000000 in
theorem inside_any (Bl cap : Nat) (a : Option Addr) (xs : List Int) (w : World) (hlen : xs.length < 1000000) (hw : ∀ W', Below w.heap.size w W' → Walked Try.prog 71 Bl xs W') (hl : Lists w a xs) :
    Calls Try.prog 31 #[seqV Bl, .slice a xs.length cap] w fun e w' => e = .returned (.bool true) ∧ Below w.heap.size w w' := by
  have b1 := Boxed.new w 51 (seqV Bl)
  have b2 := Boxed.new (w.alloc (.cells #[seqV Bl] 51)) 22 (.slice a xs.length cap)
  have b3 := Boxed.new ((w.alloc (.cells #[seqV Bl] 51)).alloc (.cells #[.slice a xs.length cap] 22)) 3 (.int .i64 ((0 : Nat) : Int))
  have b4 := Boxed.new (((w.alloc (.cells #[seqV Bl] 51)).alloc (.cells #[.slice a xs.length cap] 22)).alloc (.cells #[.int .i64 ((0 : Nat) : Int)] 3)) 4 (.bool true)
  simp only [World.size_alloc] at b2 b3 b4
  have hI : Ins (w.heap.size + 1 + 1 + 1) (w.heap.size + 1 + 1) (w.heap.size + 1) w.heap.size Bl 0 (.slice a xs.length cap) ((((w.alloc (.cells #[seqV Bl] 51)).alloc (.cells #[.slice a xs.length cap] 22)).alloc (.cells #[.int .i64 ((0 : Nat) : Int)] 3)).alloc (.cells #[.bool true] 4)) :=
    ⟨b4, b3.alloc _, (b2.alloc _).alloc _, ((b1.alloc _).alloc _).alloc _⟩
  have hBa : Below w.heap.size w ((((w.alloc (.cells #[seqV Bl] 51)).alloc (.cells #[.slice a xs.length cap] 22)).alloc (.cells #[.int .i64 ((0 : Nat) : Int)] 3)).alloc (.cells #[.bool true] 4)) :=
    ((((Below.refl _ w).alloc (Nat.le_refl _) _).alloc (by simp) _).alloc (by simp; omega) _).alloc (by simp; omega) _
  have hgo := walk_ins Bl _ _ _ _ cap a xs w _ hlen hBa (by omega) (by omega) hw hl hI
  clear b1 b2 b3 b4
  have Hgo : Hid (Calls Try.prog 71 #[.func (.func 56) #[] #[.pointer (some ⟨w.heap.size + 1 + 1 + 1, 0, none⟩), .pointer (some ⟨w.heap.size + 1 + 1, 0, none⟩), .pointer (some ⟨w.heap.size + 1, 0, none⟩), .pointer (some ⟨w.heap.size, 0, none⟩)], .pointer (some ⟨Bl, 0, none⟩)] _ _) := hgo
  clear hgo hI hw hl
  go_enter Try.func31, Try.ntmps31
  go_wp2_with fail
  refine Hgo.out.mono ?_
  rintro e w' ⟨⟨r, rfl⟩, hI, hT⟩
  have c1 := hI.ok.cell
  have c2 := hI.n.cell
  have c3 := hI.l.cell
  have hB : Below w.heap.size w w' := hBa.trans (hT.below hBa.size (fun k hk => by simp at hk; omega))
  clear hBa hT hI Hgo
  go_wp2
  go_ret
  exact ⟨rfl, hB⟩

end Go.Proofs.Ytcjblafohfiiaaa
