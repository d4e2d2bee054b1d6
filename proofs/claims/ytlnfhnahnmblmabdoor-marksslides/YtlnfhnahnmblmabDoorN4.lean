/-
  The reference's slide: Slide.
-/
import Derived.Test.YtlnfhnahnmblmabDoorN3
import Derived.Test.YtlnfhnahnmblmabDoorM24
set_option linter.unusedVariables false
set_option maxRecDepth 20000
namespace Go.Proofs.YtlnfhnahnmblmabDoor
open Go.RowKit Go.Shelf

theorem own_from {B : Nat} {w : World} {e : TypeId} {v : Value} {n : Nat} {xs : List Value} (h : w.ownsRow B e 1 v n xs) : ∀ k, v.ownBlock = some k → B ≤ k := by
  obtain ⟨_, ⟨h0, _⟩ | ⟨g', C, cur, hv, hge, _⟩⟩ := h
  · subst h0; simp [Value.ownBlock]
  · subst hv
    intro k hk
    have : some g' = some k := hk
    cases this; exact hge

theorem rslide_out (r h n : Nat) (M : Nat → Bool) (f e base : Int) (hno : f < 0 ∨ (n : Int) < e ∨ e < f ∨ base < 0 ∨ 1048576 < base) (w : World) (hM : Rm w r h n M) :
    Calls Tryd.prog 33 #[.pointer (some ⟨r, 0, none⟩), .int .i64 f, .int .i64 e, .int .i64 base] w fun x w' => x = .returned (.tuple #[.pointer none, .int .i64 41]) ∧ w = w' := by
  have c0 := hM.c0
  have hn := hM.le
  clear hM
  rcases (show f < 0 ∨ (0 ≤ f ∧ (n : Int) < e) ∨ (0 ≤ f ∧ e ≤ n ∧ e < f) ∨ (0 ≤ f ∧ e ≤ n ∧ f ≤ e ∧ base < 0) ∨ (0 ≤ f ∧ e ≤ n ∧ f ≤ e ∧ 0 ≤ base ∧ 1048576 < base) by omega) with h1 | ⟨h1, h2⟩ | ⟨h1, h2, h3⟩ | ⟨h1, h2, h3, h4⟩ | ⟨h1, h2, h3, h4, h5⟩
  all_goals
    clear hno
    go_enter Tryd.func33, Tryd.ntmps33
    go_wp2
    go_ret2
    exact ⟨rfl, rfl⟩

theorem gos_nil {N : Nat → Bool} : ∀ f, (∀ k, k < f → N k = false) → gos N f = []
  | 0, _ => rfl
  | f + 1, h => by
    simp only [gos]
    rw [gos_nil f (fun k hk => h k (by omega)), h f (by omega)]; rfl

/-- Between two rounds of Slide. -/
structure Rl (W : World) (base : Nat) (l : List Int) (v : Value) (w : World) : Prop where
  own : w.rowIs W.heap.size 80 2 (rsf base v)
  row : w.ownsRow (W.heap.size + 1) 3 1 v l.length (l.map (.int .i64))
  bel : Below W.heap.size W w

theorem Rl.new (W : World) (base : Nat) : Rl W base [] (.slice none 0 0) (W.alloc (.cells #[.int .i64 base, .slice none 0 0] 80)) :=
  ⟨World.rowIs_alloc W #[.int .i64 base, .slice none 0 0] 80 (rsf base (.slice none 0 0)) (by
      intro i hi
      match i, hi with
      | 0, _ | 1, _ => rfl
      | j + 2, h => exact absurd (show j + 2 < 2 from h) (by omega)),
    World.ownsRow_nil _ _ _ _, Below.alloc (Below.refl _ _) (Nat.le_refl _) _⟩

theorem Rl.grow {W : World} {base : Nat} {l : List Int} {v : Value} {w : World} (x : Rl W base l v w) (u : Int) (v' : Value) (w1 : World)
    (ho : w1.ownsRow (W.heap.size + 1) 3 1 v' (l.length + 1) (l.map (.int .i64) ++ [.int .i64 u])) (hg : (w.alloc (.cells #[.int .i64 u] 3)).grownBy w1 v.ownBlock) :
    w1.rowIs W.heap.size 80 2 (rsf base v) ∧ Rl W base (l ++ [u]) v' (w1.setCell ⟨W.heap.size, 1, none⟩ v') := by
  have hsl := x.own.lt
  have b0 : Below w.heap.size w (w.alloc (.cells #[.int .i64 u] 3)) := Below.alloc (Below.refl _ _) (Nat.le_refl _) _
  have hk : ∀ k, k ≤ W.heap.size → w1.heap[k]? = w.heap[k]? := fun k hk => (hg.block k (by simp; omega) (fun e => by have := own_from x.row k e.symm; omega)).trans (b0.block k (by omega))
  have o1 : w1.rowIs W.heap.size 80 2 (rsf base v) := x.own.of_block (hk _ (Nat.le_refl _))
  have hne : v'.ownBlock ≠ some W.heap.size := fun e => by have := own_from ho _ e; omega
  have hs1 : w.heap.size ≤ w1.heap.size := Nat.le_trans b0.size hg.size
  have B1 : Below W.heap.size W w1 := ⟨hg.os.trans (b0.os.trans x.bel.os), hg.tape.trans (b0.tape.trans x.bel.tape), hg.output.trans (b0.output.trans x.bel.output), Nat.le_trans x.bel.size hs1, fun k hkk => (hk k (by omega)).trans (x.bel.block k hkk)⟩
  have B2 : Below W.heap.size W (w1.setCell ⟨W.heap.size, 1, none⟩ v') := B1.setCell (Nat.le_refl _) _
  refine ⟨o1, ?_, ?_, B2⟩
  · refine (o1.set 1 _).congr ?_
    intro i hi
    match i, hi with
    | 0, _ | 1, _ => rfl
    | j + 2, h => exact absurd h (by omega)
  · rw [List.length_append, List.map_append]
    exact own_setOther ho (a := ⟨W.heap.size, 1, none⟩) hne v'

set_option maxHeartbeats 4000000 in
theorem rslide_in (r h n f e base : Nat) (M : Nat → Bool) (h1 : f ≤ e) (h2 : e ≤ n) (h3 : base ≤ 1048576) (W : World) (hM : Rm W r h n M) :
    Calls Tryd.prog 33 #[.pointer (some ⟨r, 0, none⟩), .int .i64 f, .int .i64 e, .int .i64 base] W fun x w' => x = .returned (.tuple #[.pointer (some ⟨W.heap.size, 0, none⟩), .int .i64 0]) ∧ (∃ p C, Rs w' W.heap.size base e (W.heap.size + 1) (cut M f e) p C) ∧ Below W.heap.size W w' := by
  obtain ⟨i0, hi, hz0, hz1, hz2⟩ := info_parts Tryd.infoInt
  have HI0 : Hid ((Tryd.prog.info? 3 = some i0) ∧ i0.zero = some (.int .i64 0) ∧ i0.size = 1 ∧ i0.bytes = 8) := ⟨hi, hz0, hz1, hz2⟩
  have c0 := hM.c0
  have hn := hM.le
  have HM : Hid (Rm W r h n M) := hM
  have HR : Hid (Rl W base (gos (cut M f e) f) (.slice none 0 0) (W.alloc (.cells #[.int .i64 base, .slice none 0 0] 80))) := by
    rw [gos_nil f (fun k hk => by simp [cut, show ¬ f ≤ k by omega])]
    exact Rl.new W base
  clear hM hi hz0 hz1 hz2
  go_enter Tryd.func33, Tryd.ntmps33
  go_wp2
  obtain ⟨W1, hW1⟩ : ∃ W1, W1 = W.alloc (.cells #[.int .i64 base, .slice none 0 0] 80) := ⟨_, rfl⟩
  rw [← hW1] at HR ⊢
  clear hW1 c0
  obtain ⟨s, hs⟩ : ∃ s, s = W.heap.size := ⟨_, rfl⟩
  rw [← hs]
  have hss : Hid (s = W.heap.size) := hs
  have H123 : Hid (f ≤ e ∧ e ≤ n ∧ base ≤ 1048576) := ⟨h1, h2, h3⟩
  rename_i hq _ _
  clear hs h1 h2 h3 hq
  go_loopw [11] (fun v wr => ∃ (i : Nat) (u : Value), v = .int .i64 i ∧ f ≤ i ∧ i ≤ e ∧ Hid (Rl W base (gos (cut M f e) i) u wr)) (fun v _ => (e - intOf v).toNat)
  case atStart => exact ⟨f, _, rfl, Nat.le_refl _, H123.out.1, HR⟩
  case round =>
    clear HR
    obtain ⟨i, u, rfl, hfi, hie, hI⟩ := hrel
    by_cases hlt : i < e
    · have hMr := HM.out.below hI.out.bel
      have c0 := hMr.c0
      have hin : i < n := by have := H123.out; omega
      have c1 := hMr.at hin
      cases hMi : M i
      · rw [hMi] at c1
        have hk2 : Hid (Rl W base (gos (cut M f e) (i + 1)) u wr) := by
          have : gos (cut M f e) (i + 1) = gos (cut M f e) i := by simp [gos, cut, hMi]
          rw [this]; exact hI
        clear hMi hMr hI
        go_wp2
        go_roundw
        case rel => exact ⟨i + 1, u, by simp, by omega, by omega, hk2⟩
        case measure => simp [intOf]; omega
      · rw [hMi] at c1
        have hgi : Hid (gos (cut M f e) (i + 1) = gos (cut M f e) i ++ [(i : Int)]) := by
          show _ = _
          simp [gos, cut, hMi, hfi, hlt]
        obtain ⟨p, C, rfl, -, -⟩ := own_lsb hI.out.row
        have c2 : wr.cell? ⟨s, 1, none⟩ = some (.slice p (gos (cut M f e) i).length C) := by rw [hss.out]; exact hI.out.own.cell (i := 1) (by decide)
        have hll : (gos (cut M f e) i).length ≤ 1048576 := by rw [gos_len]; have := rk_le (cut M f e) i; omega
        have hsl : s < wr.heap.size := by rw [hss.out]; exact hI.out.own.lt
        have hsl2 : W.heap.size + 1 ≤ wr.heap.size := hI.out.own.lt
        clear hMi hMr
        generalize gos (cut M f e) i = L at hI hgi hll c2
        go_wp2_with (at_builtin; refine wpList_append_own_at _ rfl _ _ 64 rfl (W.heap.size + 1) 3 i0 (.int .i64 0) 1 8 Tryd.underlying64 HI0.out.1 HI0.out.2.1 HI0.out.2.2.1 HI0.out.2.2.2 rfl (by decide) _ _ _ rfl (hI.out.row.alloc _) ⟨wr.heap.size, 0, none⟩ 1 1 [.int .i64 (i : Int)] rfl rfl (cells_new _ _ _) (by simp [Value.oneCell']) (by simp [maxLen]; omega) (by omega) (by simp; omega) ?_)
        intro v' w1 ho hg _ hat
        obtain ⟨g', C', rfl⟩ : ∃ g' C', v' = .slice (some ⟨g', 0, none⟩) (L.length + 1) C' := by
          obtain ⟨_, ⟨_, h0⟩ | ⟨g', C', cur, hv, _⟩⟩ := ho
          · omega
          · exact ⟨g', C', hv⟩
        obtain ⟨o1, hR⟩ := hI.out.grow (i : Int) _ w1 ho hg
        have HR : Hid (Rl W base (gos (cut M f e) (i + 1)) (.slice (some ⟨g', 0, none⟩) (L.length + 1) C') (w1.setCell ⟨s, 1, none⟩ (.slice (some ⟨g', 0, none⟩) (L.length + 1) C'))) := by
          rw [hgi.out, hss.out]; exact hR
        have k1 : w1.cell? ⟨s, 1, none⟩ = some (.slice p L.length C) := by rw [hss.out]; exact o1.cell (i := 1) (by decide)
        have kf := o1.frozen 1
        rw [← hss.out] at kf
        clear ho hg hat o1 hR hI hgi
        go_wp2
        go_roundw
        case rel => exact ⟨i + 1, _, by simp, by omega, by omega, HR⟩
        case measure => simp [intOf]; omega
    · have hin : i = e := by omega
      subst hin
      have HP : Hid (∃ p C, Rs wr W.heap.size base i (W.heap.size + 1) (cut M f i) p C) := by
        obtain ⟨p, C, rfl, hC, hl⟩ := own_lsb hI.out.row
        have ho := hI.out.own
        rw [gos_len] at ho hC
        exact ⟨p, C, ho, hl, hC, H123.out.2.2, by have := H123.out; omega, fun k hk => by simp [cut, show ¬ k < i by omega]⟩
      go_wp2
      go_ret2
      exact ⟨by rw [hss.out]; rfl, HP.out, hI.out.bel⟩
end Go.Proofs.YtlnfhnahnmblmabDoor
