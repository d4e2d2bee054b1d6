/-
  BagFrozen: the walk.
-/
import Derived.Test.YtcjblafohfiiaaaZw
import Derived.Deep.Cut
import Derived.Deep.DeepCutAuto
set_option linter.unusedVariables false
namespace Go.Proofs.Ytcjblafohfiiaaa
open Go.RowKit Go.Shelf

theorem seqi_not_nil (Bl : Nat) (W : World) : (binOp BinOp.eql 52 (.func (.func 71) #[] #[.pointer (some ⟨Bl, 0, none⟩)]) .nilFunc).run Try.prog W = .ok (.bool false) W := by
  kernel_rfl

theorem seq2_not_nil (Bl : Nat) (W : World) : (binOp BinOp.eql 44 (.func (.func 48) #[] #[.pointer (some ⟨Bl, 0, none⟩)]) .nilFunc).run Try.prog W = .ok (.bool false) W := by
  kernel_rfl

/-- The variables of the function, and the iterators' own. -/
structure Fr (mB lB sB qB tB x1 x2 x3 bs bq bt : Nat) (lv : Value) (more : Int) (W : World) : Prop where
  m : Boxed W mB 3 (.int .i64 more)
  l : Boxed W lB 22 lv
  s : Boxed W sB 25 (.pointer (some ⟨bs, 0, none⟩))
  q : Boxed W qB 29 (.pointer (some ⟨bq, 0, none⟩))
  t : Boxed W tB 38 (.pointer (some ⟨bt, 0, none⟩))
  y1 : Boxed W x1 53 (.func (.func 54) #[.pointer (some ⟨bs, 0, none⟩)] #[])
  y2 : Boxed W x2 53 (.func (.func 55) #[.pointer (some ⟨bq, 0, none⟩)] #[])
  y3 : Boxed W x3 38 (.pointer (some ⟨bt, 0, none⟩))

theorem Fr.touch {mB lB sB qB tB x1 x2 x3 bs bq bt : Nat} {lv : Value} {more : Int} {W W' : World} {F : List Nat} (h : Fr mB lB sB qB tB x1 x2 x3 bs bq bt lv more W) (ht : Touch F W W') (hF : ∀ q, q ∈ [mB, lB, sB, qB, tB, x1, x2, x3] → q ∉ F) : Fr mB lB sB qB tB x1 x2 x3 bs bq bt lv more W' :=
  ⟨box_touch h.m ht (hF _ (by simp)), box_touch h.l ht (hF _ (by simp)), box_touch h.s ht (hF _ (by simp)), box_touch h.q ht (hF _ (by simp)), box_touch h.t ht (hF _ (by simp)), box_touch h.y1 ht (hF _ (by simp)), box_touch h.y2 ht (hF _ (by simp)), box_touch h.y3 ht (hF _ (by simp))⟩

theorem Fr.lt {mB lB sB qB tB x1 x2 x3 bs bq bt : Nat} {lv : Value} {more : Int} {W : World} (h : Fr mB lB sB qB tB x1 x2 x3 bs bq bt lv more W) : ∀ q, q ∈ [mB, lB, sB, qB, tB, x1, x2, x3] → q < W.heap.size := by
  intro q hq
  simp at hq
  rcases hq with rfl | rfl | rfl | rfl | rfl | rfl | rfl | rfl
  · exact h.m.lt
  · exact h.l.lt
  · exact h.s.lt
  · exact h.q.lt
  · exact h.t.lt
  · exact h.y1.lt
  · exact h.y2.lt
  · exact h.y3.lt

set_option maxHeartbeats 4000000 in
theorem frozen_core (a : Option Addr) (cap : Nat) (l : List Int) (more : Int) (w : World) (v0 : Value) (hfew : ∀ w, Calls Try.prog 8 #[v0] w fun e w' => e = .returned (.slice a l.length cap) ∧ w = w') (hl : Lists w a l) (hn : l.length ≤ 500) :
    Calls Try.prog 5 #[v0, .int .i64 more] w fun e w' => e = .returned (.bool true) ∧ Below w.heap.size w w' := by
  have nn1 := seqi_not_nil
  have nn2 := seq2_not_nil
  have bm0 := Boxed.new w 3 (.int .i64 more)
  have hBa : Below w.heap.size w (w.alloc (.cells #[.int .i64 more] 3)) := (Below.refl _ w).alloc (Nat.le_refl _) _
  go_enter Try.func5, Try.ntmps5
  go_wp2_with fail
  refine (known_any _).mono ?_
  rintro e w1 ⟨rfl, hB1'⟩
  have hm1 := box_touch bm0 (Touch.of_below hB1' []) (by simp)
  have hB1 : Below w.heap.size w w1 := hBa.trans (hB1'.mono hBa.size)
  have z1 : w.heap.size < w1.heap.size := hm1.lt
  clear bm0 hBa hB1'
  go_wp2_with fail
  refine (hfew w1).mono ?_
  rintro e w' ⟨rfl, rfl⟩
  go_wp2_with fail
  refine (newintstack_any 0 (by decide) _).mono ?_
  rintro e w2 ⟨rfl, hs2, ht2, hz2⟩
  have hl2 := box_touch (Boxed.new w1 22 (.slice a l.length cap)) ht2 (by simp)
  have hm2 := box_touch (hm1.alloc (.cells #[.slice a l.length cap] 22)) ht2 (by simp)
  have hB2 : Below w.heap.size w w2 := (hB1.alloc hB1.size _).trans (ht2.below (by have := hB1.size; simp; omega) (by simp))
  have o1 : w1.heap.size < (w1.alloc (.cells #[.slice a l.length cap] 22)).heap.size := by simp
  have o2 : (w1.alloc (.cells #[.slice a l.length cap] 22)).heap.size < w2.heap.size := by omega
  have hs2' := hs2.base (base' := w.heap.size) (by simp; omega)
  clear hz2 hs2 ht2 hm1 hB1
  generalize (w1.alloc (.cells #[.slice a l.length cap] 22)).heap.size = bs at *
  generalize w1.heap.size = lB at *
  go_wp2_with fail
  refine (newintqueue_any 0 (by decide) _).mono ?_
  rintro e w3 ⟨rfl, hq3, ht3, hz3⟩
  have hl3 := box_touch (hl2.alloc (.cells #[.pointer (some ⟨bs, 0, none⟩)] 25)) ht3 (by simp)
  have hm3 := box_touch (hm2.alloc (.cells #[.pointer (some ⟨bs, 0, none⟩)] 25)) ht3 (by simp)
  have hS3 := box_touch (Boxed.new w2 25 (.pointer (some ⟨bs, 0, none⟩))) ht3 (by simp)
  have hs3 := (hs2'.keep (G := []) (Touch.alloc _ _ (.cells #[.pointer (some ⟨bs, 0, none⟩)] 25)) (by intro k _ h; simp at h)).keep ht3 (by intro k _ h; simp at h)
  have hB3 : Below w.heap.size w w3 := (hB2.alloc hB2.size _).trans (ht3.below (by have := hB2.size; simp; omega) (by simp))
  have o3 : w2.heap.size < (w2.alloc (.cells #[.pointer (some ⟨bs, 0, none⟩)] 25)).heap.size := by simp
  have o4 : (w2.alloc (.cells #[.pointer (some ⟨bs, 0, none⟩)] 25)).heap.size < w3.heap.size := by omega
  have hq3' := hq3.base (base' := w.heap.size) (by simp; omega)
  clear hz3 hq3 ht3 hm2 hl2 hs2' hB2
  generalize (w2.alloc (.cells #[.pointer (some ⟨bs, 0, none⟩)] 25)).heap.size = bq at *
  generalize w2.heap.size = sB at *
  go_wp2_with fail
  refine (newinttab_any _).mono ?_
  rintro e w4 ⟨rfl, hk4, ht4, hz4⟩
  have hl4 := (box_touch (hl3.alloc (.cells #[.pointer (some ⟨bq, 0, none⟩)] 29)) ht4 (by simp)).alloc (.cells #[.pointer (some ⟨(w3.alloc (.cells #[.pointer (some ⟨bq, 0, none⟩)] 29)).heap.size, 0, none⟩)] 38)
  have hm4 := (box_touch (hm3.alloc (.cells #[.pointer (some ⟨bq, 0, none⟩)] 29)) ht4 (by simp)).alloc (.cells #[.pointer (some ⟨(w3.alloc (.cells #[.pointer (some ⟨bq, 0, none⟩)] 29)).heap.size, 0, none⟩)] 38)
  have hS4 := (box_touch (hS3.alloc (.cells #[.pointer (some ⟨bq, 0, none⟩)] 29)) ht4 (by simp)).alloc (.cells #[.pointer (some ⟨(w3.alloc (.cells #[.pointer (some ⟨bq, 0, none⟩)] 29)).heap.size, 0, none⟩)] 38)
  have hQ4 := (box_touch (Boxed.new w3 29 (.pointer (some ⟨bq, 0, none⟩))) ht4 (by simp)).alloc (.cells #[.pointer (some ⟨(w3.alloc (.cells #[.pointer (some ⟨bq, 0, none⟩)] 29)).heap.size, 0, none⟩)] 38)
  have hT4 := Boxed.new w4 38 (.pointer (some ⟨(w3.alloc (.cells #[.pointer (some ⟨bq, 0, none⟩)] 29)).heap.size, 0, none⟩))
  have ta : Touch [] w3 (w3.alloc (.cells #[.pointer (some ⟨bq, 0, none⟩)] 29)) := Touch.alloc _ _ _
  have tb : Touch [] w4 (w4.alloc (.cells #[.pointer (some ⟨(w3.alloc (.cells #[.pointer (some ⟨bq, 0, none⟩)] 29)).heap.size, 0, none⟩)] 38)) := Touch.alloc _ _ _
  have t34 := (ta.trans ht4).trans tb
  have hs4 := hs3.keep t34 (by intro k _ h; simp at h)
  have hq4 := hq3'.keep t34 (by intro k _ h; simp at h)
  have hB4 := hB3.trans (t34.below hB3.size (by simp))
  have o5 : w3.heap.size < (w3.alloc (.cells #[.pointer (some ⟨bq, 0, none⟩)] 29)).heap.size := by simp
  have o6 : (w3.alloc (.cells #[.pointer (some ⟨bq, 0, none⟩)] 29)).heap.size < w4.heap.size := by omega
  have hk4' := (hk4.keep tb (by intro k _ h; simp at h)).base (base' := w.heap.size) (by simp; omega)
  clear hz4 hk4 ht4 hm3 hl3 hS3 hs3 hq3' hB3 ta tb t34
  generalize (w3.alloc (.cells #[.pointer (some ⟨bq, 0, none⟩)] 29)).heap.size = bt at *
  generalize w3.heap.size = qB at *
  have o7 : w4.heap.size < (w4.alloc (.cells #[.pointer (some ⟨bt, 0, none⟩)] 38)).heap.size := by simp
  go_upto_region 7 with fail
  generalize hW5 : w4.alloc (.cells #[.pointer (some ⟨bt, 0, none⟩)] 38) = W5 at *
  clear hW5
  generalize w4.heap.size = tB at *
  have c1 := hS4.cell
  have c2 := hQ4.cell
  have c3 := hT4.cell
  go_wp2_with fail
  refine (sall_any _ _).mono ?_
  rintro e W6 ⟨rfl, hW6⟩
  have t6 : Touch [] W5 W6 := by rw [hW6]; exact Touch.alloc _ _ _
  have y1 : Boxed W6 W5.heap.size 53 (.func (.func 54) #[.pointer (some ⟨bs, 0, none⟩)] #[]) := by rw [hW6]; exact Boxed.new _ _ _
  have o8 : W5.heap.size < W6.heap.size := y1.lt
  have cq := (box_touch hQ4 t6 (by simp)).cell
  clear hW6 c1 c2 c3
  generalize W5.heap.size = x1 at *
  go_wp2_with fail
  refine (qall_any _ _).mono ?_
  rintro e W7 ⟨rfl, hW7⟩
  have t7 : Touch [] W6 W7 := by rw [hW7]; exact Touch.alloc _ _ _
  have y2 : Boxed W7 W6.heap.size 53 (.func (.func 55) #[.pointer (some ⟨bq, 0, none⟩)] #[]) := by rw [hW7]; exact Boxed.new _ _ _
  have o9 : W6.heap.size < W7.heap.size := y2.lt
  have ct := (box_touch hT4 (t6.trans t7) (by simp)).cell
  clear hW7 cq
  generalize W6.heap.size = x2 at *
  go_wp2_with fail
  refine (allT_any _ _).mono ?_
  rintro e W8 ⟨rfl, hW8⟩
  have t8 : Touch [] W7 W8 := by rw [hW8]; exact Touch.alloc _ _ _
  have y3 : Boxed W8 W7.heap.size 38 (.pointer (some ⟨bt, 0, none⟩)) := by rw [hW8]; exact Boxed.new _ _ _
  have t58 := (t6.trans t7).trans t8
  clear hW8 ct
  generalize W7.heap.size = x3 at *
  have hfr : Fr w.heap.size lB sB qB tB x1 x2 x3 bs bq bt (.slice a l.length cap) more W8 := ⟨box_touch hm4 t58 (by simp), box_touch hl4 t58 (by simp), box_touch hS4 t58 (by simp), box_touch hQ4 t58 (by simp), box_touch hT4 t58 (by simp), box_touch y1 (t7.trans t8) (by simp), box_touch y2 t8 (by simp), y3⟩
  have hs8 := hs4.keep t58 (by intro k _ h; simp at h)
  have hq8 := hq4.keep t58 (by intro k _ h; simp at h)
  have hk8 := hk4'.keep t58 (by intro k _ h; simp at h)
  have hB8 := hB4.trans (t58.below hB4.size (by simp))
  have hA1 : Apart [bs] [bq] := by intro k hk hk2; simp at hk hk2; omega
  have hA2 : Apart [bs] [bt] := by intro k hk hk2; simp at hk hk2; omega
  have hA3 : Apart [bq] [bt] := by intro k hk hk2; simp at hk hk2; omega
  have hX1 : ∀ q, q ∈ [w.heap.size, lB, sB, qB, tB, x1, x2, x3] → q ∉ [bs] := by intro q hq hq2; simp at hq hq2; omega
  have hX2 : ∀ q, q ∈ [w.heap.size, lB, sB, qB, tB, x1, x2, x3] → q ∉ [bq] := by intro q hq hq2; simp at hq hq2; omega
  have hX3 : ∀ q, q ∈ [w.heap.size, lB, sB, qB, tB, x1, x2, x3] → q ∉ [bt] := by intro q hq hq2; simp at hq hq2; omega
  clear t58 t8 y3 y2 t7 t6 y1 hs4 hq4 hk4' hB4 hm4 hl4 hS4 hQ4 hT4 o1 o2 o3 o4 o5 o6 o7 o8 o9 z1
  go_wp2
  go_loopw [14] (fun i wr => ∃ (k : Nat) (Fs Fq Ft : List Nat), k ≤ l.length ∧ i = .int .i64 k ∧ Fr w.heap.size lB sB qB tB x1 x2 x3 bs bq bt (.slice a l.length cap) more wr ∧ Stk wr w.heap.size bs 0 (l.take k) Fs ∧ Que wr w.heap.size bq 0 k (l.take k) Fq ∧ ITab wr w.heap.size bt (keysTo k) (sevTo k) Ft ∧
      (Apart Fs Fq ∧ Apart Fs Ft ∧ Apart Fq Ft) ∧ ((∀ q, q ∈ [w.heap.size, lB, sB, qB, tB, x1, x2, x3] → q ∉ Fs) ∧ (∀ q, q ∈ [w.heap.size, lB, sB, qB, tB, x1, x2, x3] → q ∉ Fq) ∧ (∀ q, q ∈ [w.heap.size, lB, sB, qB, tB, x1, x2, x3] → q ∉ Ft)) ∧ Below w.heap.size w wr) (fun i _ => l.length - (intOf i).toNat)
  case atStart => exact ⟨0, _, _, _, Nat.zero_le _, rfl, hfr, by simpa using hs8, by simpa using hq8, hk8, ⟨hA1, hA2, hA3⟩, ⟨hX1, hX2, hX3⟩, hB8⟩
  case round =>
    obtain ⟨k, Fs, Fq, Ft, hk, rfl, hf, hs, hq, ht, ⟨hsq, hst, hqt⟩, ⟨hXs, hXq, hXt⟩, hB⟩ := hrel
    clear hfr hs8 hq8 hk8 hB8 hA1 hA2 hA3 hX1 hX2 hX3
    have HXs : Hid (∀ q, q ∈ [w.heap.size, lB, sB, qB, tB, x1, x2, x3] → q ∉ Fs) := hXs
    have HXq : Hid (∀ q, q ∈ [w.heap.size, lB, sB, qB, tB, x1, x2, x3] → q ∉ Fq) := hXq
    have HXt : Hid (∀ q, q ∈ [w.heap.size, lB, sB, qB, tB, x1, x2, x3] → q ∉ Ft) := hXt
    clear hXs hXq hXt
    have cl := hf.l.cell
    by_cases hlt : k < l.length
    · obtain ⟨x, hx⟩ : ∃ x, l[k]? = some x := ⟨_, List.getElem?_eq_getElem hlt⟩
      obtain ⟨g, off, rfl, hg, hc⟩ := hl k x hx
      have hki : (k : Int) < (l.length : Int) := by omega
      have hcr : wr.cell? ⟨g, off + k, none⟩ = some (.int .i64 x) := (hB.cell (p := ⟨g, off + k, none⟩) hg).trans hc
      have Hx : Hid (l.take k ++ [x] = l.take (k + 1)) := take_snoc hx
      have cs := hf.s.cell
      clear hx
      go_wp2_with fail
      go_cut [] (fun w' => ∃ Fs', Stk w' w.heap.size bs 0 (l.take (k + 1)) Fs' ∧ Touch Fs wr w' ∧ Newer wr.heap.size Fs Fs')
      case first =>
        have hpu := push_any bs w.heap.size 0 x (l.take k) Fs wr.drew (hs.keep (Touch.drew [] wr) (by intro k _ h; simp at h)) hB.size (by simp; omega) (by simp)
        rw [Hx.out] at hpu
        go_region_with (go_at_call 11; refine hpu.mono ?_; rintro e w5 ⟨rfl, Fs', hs5, ht5, hn5⟩)
        all_goals (go_wp2_with fail; go_meet; exact ⟨Fs', hs5, (Touch.drew _ wr).trans ht5, hn5⟩)
      case rest =>
      obtain ⟨Fs', hs5, ht5, hn5⟩ := hcut
      have hlr := hf.lt
      have hf5 := hf.touch ht5 HXs.out
      have HXs5 : Hid (∀ q, q ∈ [w.heap.size, lB, sB, qB, tB, x1, x2, x3] → q ∉ Fs') := away HXs.out hn5 hlr
      have hq5 := hq.keep ht5 hsq.symm
      have hk5 := ht.keep ht5 hst.symm
      have hsq5 : Apart Fs' Fq := hsq.newer hn5 (fun j hj => (hq.mem j hj).2)
      have hst5 : Apart Fs' Ft := hst.newer hn5 (fun j hj => (ht.mem j hj).2)
      have hB5 : Below w.heap.size w wc := hB.trans (ht5.below hB.size (fun j hj => (hs.mem j hj).1))
      clear hs hq ht hsq hst hB ht5 hn5 hf hcr cs cl hlr HXs
      generalize wc = wA at *
      have hcr : wA.cell? ⟨g, off + k, none⟩ = some (.int .i64 x) := (hB5.cell (p := ⟨g, off + k, none⟩) hg).trans hc
      have cq := hf5.q.cell
      have cl := hf5.l.cell
      go_wp2_with fail
      go_cut [] (fun w' => ∃ Fq', Que w' w.heap.size bq 0 (k + 1) (l.take (k + 1)) Fq' ∧ Touch Fq wA w' ∧ Newer wA.heap.size Fq Fq')
      case first =>
        have hpu := put_any bq w.heap.size k 0 x (l.take k) Fq wA.drew (hq5.keep (Touch.drew [] wA) (by intro k _ h; simp at h)) hB5.size (by omega) (by simp)
        rw [Hx.out] at hpu
        go_region_with (go_at_call 12; refine hpu.mono ?_; rintro e w5 ⟨rfl, Fq', hq6, ht6, hn6⟩)
        all_goals (go_wp2_with fail; go_meet; exact ⟨Fq', hq6, (Touch.drew _ wA).trans ht6, hn6⟩)
      case rest =>
      obtain ⟨Fq', hq6, ht6, hn6⟩ := hcut
      have hlr := hf5.lt
      have hf6 := hf5.touch ht6 HXq.out
      have HXq6 : Hid (∀ q, q ∈ [w.heap.size, lB, sB, qB, tB, x1, x2, x3] → q ∉ Fq') := away HXq.out hn6 hlr
      have hs6 := hs5.keep ht6 hsq5
      have hk6 := hk5.keep ht6 hqt.symm
      have hsq6 : Apart Fs' Fq' := (hsq5.symm.newer hn6 (fun j hj => (hs5.mem j hj).2)).symm
      have hqt6 : Apart Fq' Ft := hqt.newer hn6 (fun j hj => (hk5.mem j hj).2)
      have hB6 : Below w.heap.size w wc := hB5.trans (ht6.below hB5.size (fun j hj => (hq5.mem j hj).1))
      clear hs5 hq5 hk5 hsq5 hqt hB5 ht6 hn6 hf5 hcr cq cl hlr HXq
      generalize wc = wD at *
      have ct := hf6.t.cell
      have hse := setI_seven bt w.heap.size k Ft wD hk6 hB6.size (by omega)
      go_wp2_with fail
      refine hse.mono ?_
      rintro e w7 ⟨rfl, Ft', hk7, ht7, hn7⟩
      clear hse
      have hlr := hf6.lt
      have hf7 := hf6.touch ht7 HXt.out
      have hXt7 := away HXt.out hn7 hlr
      have hs7 := hs6.keep ht7 hst5
      have hq7 := hq6.keep ht7 hqt6
      have hst7 : Apart Fs' Ft' := (hst5.symm.newer hn7 (fun j hj => (hs6.mem j hj).2)).symm
      have hqt7 : Apart Fq' Ft' := (hqt6.symm.newer hn7 (fun j hj => (hq6.mem j hj).2)).symm
      have hB7 : Below w.heap.size w w7 := hB6.trans (ht7.below hB6.size (fun j hj => (hk6.mem j hj).1))
      have HXt7 : Hid (∀ q, q ∈ [w.heap.size, lB, sB, qB, tB, x1, x2, x3] → q ∉ Ft') := hXt7
      clear hs6 hq6 hk6 hst5 hqt6 hB6 ht7 hn7 hf6 ct hlr HXt hXt7
      go_wp2
      go_roundw
      case rel => exact ⟨k + 1, Fs', Fq', Ft', hlt, by go_num, hf7, hs7, hq7, hk7, ⟨hsq6, hst7, hqt7⟩, ⟨HXs5.out, HXq6.out, HXt7.out⟩, hB7⟩
      case measure => simp [intOf]; omega
    · obtain rfl : k = l.length := by omega
      rw [List.take_length] at hs hq
      have bn := Boxed.new wr 3 (.int .i64 ((0 : Nat) : Int))
      have bo := Boxed.new (wr.alloc (.cells #[.int .i64 ((0 : Nat) : Int)] 3)) 4 (.bool true)
      have hta : Touch [] wr ((wr.alloc (.cells #[.int .i64 ((0 : Nat) : Int)] 3)).alloc (.cells #[.bool true] 4)) := (Touch.alloc _ _ _).trans (Touch.alloc _ _ _)
      obtain ⟨WA, hWA⟩ : ∃ WA, WA = (wr.alloc (.cells #[.int .i64 ((0 : Nat) : Int)] 3)).alloc (.cells #[.bool true] 4) := ⟨_, rfl⟩
      simp only [World.size_alloc] at bo
      have bn' := bn.alloc (.cells #[.bool true] 4)
      rw [← hWA] at bn' bo hta
      have HWA : Hid (WA = (wr.alloc (.cells #[.int .i64 0] 3)).alloc (.cells #[.bool true] 4)) := hWA
      have hfA := hf.touch hta (by simp)
      have hsA := hs.keep hta (by intro k _ h; simp at h)
      have hqA := hq.keep hta (by intro k _ h; simp at h)
      have hkA := ht.keep hta (by intro k _ h; simp at h)
      have hBA : Below w.heap.size w WA := hB.trans (hta.below hB.size (by simp))
      have hltr := hf.lt
      have hms := fun j hj => (hs.mem j hj)
      have hmq := fun j hj => (hq.mem j hj)
      have hmt := fun j hj => (ht.mem j hj)
      have HL : Hid (∀ q, q ∈ [w.heap.size, lB, sB, qB, tB, x1, x2, x3] → q < wr.heap.size) := hltr
      clear bn hWA hta hs hq ht hltr
      go_upto_region 22 with fail
      rw [← HWA.out]
      have hnm : wr.heap.size ≠ w.heap.size := by have := HL.out w.heap.size (by simp); omega
      have hV : Vs (wr.heap.size + 1) wr.heap.size lB sB w.heap.size 25 0 (.slice a l.length cap) (.pointer (some ⟨bs, 0, none⟩)) more WA := ⟨bo, bn', hfA.l, hfA.s, hfA.m, hnm, by decide, by decide⟩
      have hle := hB.size
      have five : ∀ {c : Nat} {F : List Nat}, c ∈ [w.heap.size, lB, sB, qB, tB, x1, x2, x3] → (∀ q, q ∈ [w.heap.size, lB, sB, qB, tB, x1, x2, x3] → q ∉ F) → (∀ q, q ∈ F → w.heap.size ≤ q ∧ q < wr.heap.size) → ∀ q, q ∈ [wr.heap.size + 1, wr.heap.size, lB, c, w.heap.size] → q ∉ F := by
        intro c F hc hX hm q hq hqF
        simp only [List.mem_cons, List.not_mem_nil, or_false] at hq
        have := (hm q hqF).2
        rcases hq with rfl | rfl | rfl | rfl | rfl
        · omega
        · omega
        · exact hX _ (by simp) hqF
        · exact hX _ hc hqF
        · exact hX _ (by simp) hqF
      have geq : ∀ {F : List Nat}, (∀ q, q ∈ F → w.heap.size ≤ q ∧ q < wr.heap.size) → ∀ q, q ∈ (wr.heap.size + 1) :: wr.heap.size :: F → w.heap.size ≤ q := by
        intro F hm q hq
        simp only [List.mem_cons] at hq
        rcases hq with rfl | rfl | hq
        · omega
        · omega
        · exact (hm q hq).1
      have box8 : ∀ {F : List Nat}, (∀ q, q ∈ [w.heap.size, lB, sB, qB, tB, x1, x2, x3] → q ∉ F) → ∀ q, q ∈ [w.heap.size, lB, sB, qB, tB, x1, x2, x3] → q ∉ (wr.heap.size + 1) :: wr.heap.size :: F := by
        intro F hX q hq hqF
        have := HL.out q hq
        simp only [List.mem_cons] at hqF
        rcases hqF with rfl | rfl | hqF
        · omega
        · omega
        · exact hX q hq hqF
      have apa : ∀ {F G : List Nat}, Apart F G → (∀ q, q ∈ F → w.heap.size ≤ q ∧ q < wr.heap.size) → Apart F ((wr.heap.size + 1) :: wr.heap.size :: G) := by
        intro F G hA hm q hq hqG
        have := (hm q hq).2
        simp only [List.mem_cons] at hqG
        rcases hqG with rfl | rfl | hqG
        · omega
        · omega
        · exact hA q hq hqG
      have hgo1 := walk_fz1 x1 _ _ lB sB w.heap.size bs w.heap.size l.length cap a more l Fs w WA (stk_walked hsA hfA.y1.cell (by omega)) hV ⟨l, hsA, Nat.le_refl _⟩ (five (by simp) HXs.out hms) hBA.size (by omega) (by omega) hl hBA (geq hms)
      have Hgo1 : Hid (Calls Try.prog 71 _ WA _) := hgo1
      clear hgo1 hV bo bn' hsA
      go_wp2_with fail
      refine Hgo1.out.mono ?_
      rintro e WB ⟨⟨r, rfl⟩, hV1, hT1⟩
      have d1 := hV1.ok.cell
      have d2 := hV1.n.cell
      have d3 := hV1.l.cell
      have f2 := hV1.n.frozen
      have t2 : Touch ((wr.heap.size + 1) :: wr.heap.size :: Fs) WA (WB.setCell ⟨wr.heap.size, 0, none⟩ (.int .i64 0)) := hT1.trans (Touch.setCell _ _ _ (by simp))
      have hf2 := hfA.touch t2 (box8 HXs.out)
      have hq2 := hqA.keep t2 (apa hsq.symm hmq)
      have hk2 := hkA.keep t2 (apa hst.symm hmt)
      have hB2 := hBA.trans (t2.below hBA.size (geq hms))
      have hv2 := hV1.setN 0
      have hV2 : Vs (wr.heap.size + 1) wr.heap.size lB qB w.heap.size 29 0 (.slice a l.length cap) (.pointer (some ⟨bq, 0, none⟩)) more (WB.setCell ⟨wr.heap.size, 0, none⟩ (.int .i64 0)) := ⟨hv2.ok, hv2.n, hf2.l, hf2.q, hf2.m, hnm, by decide, by decide⟩
      have hgo2 := walk_fz2 x2 _ _ lB qB w.heap.size bq w.heap.size l.length cap a more l Fq w _ (que_walked hq2 hf2.y2.cell (by omega)) hV2 ⟨l, hq2⟩ (five (by simp) HXq.out hmq) hB2.size (by omega) (by omega) hl hB2 (geq hmq)
      have Hgo2 : Hid (Calls Try.prog 71 _ (WB.setCell ⟨wr.heap.size, 0, none⟩ (.int .i64 0)) _) := hgo2
      clear hgo2 hV2 hv2 hV1 hT1 t2 hfA hqA hkA hBA Hgo1
      go_wp2_with fail
      refine Hgo2.out.mono ?_
      rintro e WC ⟨⟨r2, rfl⟩, hV3, hT3⟩
      have d4 := hV3.ok.cell
      have d5 := hV3.n.cell
      have d6 := hV3.l.cell
      have f4 := hV3.n.frozen
      have t4 : Touch ((wr.heap.size + 1) :: wr.heap.size :: Fq) (WB.setCell ⟨wr.heap.size, 0, none⟩ (.int .i64 0)) (WC.setCell ⟨wr.heap.size, 0, none⟩ (.int .i64 0)) := hT3.trans (Touch.setCell _ _ _ (by simp))
      have hf4 := hf2.touch t4 (box8 HXq.out)
      have hk4 := hk2.keep t4 (apa hqt.symm hmt)
      have hB4 := hB2.trans (t4.below hB2.size (geq hmq))
      have hv4 := hV3.setN 0
      have hV4 : Vs (wr.heap.size + 1) wr.heap.size lB tB w.heap.size 38 0 (.slice a l.length cap) (.pointer (some ⟨bt, 0, none⟩)) more (WC.setCell ⟨wr.heap.size, 0, none⟩ (.int .i64 0)) := ⟨hv4.ok, hv4.n, hf4.l, hf4.t, hf4.m, hnm, by decide, by decide⟩
      have hgo3 := walk_fz3 x3 _ _ lB tB w.heap.size bt w.heap.size l.length cap a more l Ft _ (tab_walked hk4 hf4.y3.cell (by simp; omega)) hV4 ⟨_, _, hk4, by simp⟩ (five (by simp) HXt.out hmt) hB4.size (by omega) (by omega)
      have Hgo3 : Hid (Calls Try.prog 48 _ (WC.setCell ⟨wr.heap.size, 0, none⟩ (.int .i64 0)) _) := hgo3
      clear hgo3 hV4 hv4 hV3 hT3 t4 hf2 hq2 hk2 hB2 Hgo2 d1 d2 d3 f2
      go_wp2_with fail
      refine Hgo3.out.mono ?_
      rintro e WD ⟨⟨r3, rfl⟩, hV5, hT5⟩
      have d7 := hV5.ok.cell
      have d8 := hV5.n.cell
      have d9 := hV5.l.cell
      have hB5 := hB4.trans (hT5.below hB4.size (geq hmt))
      clear hV5 hT5 hB4 hf4 hk4 Hgo3 d4 d5 d6 f4
      go_wp2
      go_ret
      exact ⟨rfl, hB5⟩

end Go.Proofs.Ytcjblafohfiiaaa
