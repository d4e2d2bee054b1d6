/-
  A table gone through: the closure.
-/
import Derived.Test.YtcjblafohfiiaabGreatWG5
import Derived.Test.YtcjblafohfiiaabGreatWtt
set_option linter.unusedVariables false
set_option maxRecDepth 20000
namespace Go.Proofs.YtcjblafohfiiaabGreat.Wd
open Go.RowKit Go.Shelf

/-- What the closure takes: its variables, the keys that are wanted, the document's table. -/
structure Sv (okB nB wB kB dB iB sB d i br base kb : Nat) (kv : Value) (ks kr : List Int) (vr : List Int) (want : Nat) (stop : Int) (Fr : List Nat) (j : Nat) (W : World) : Prop where
  ok : Boxed W okB 4 (.bool true)
  n : Boxed W nB 3 (.int .i64 j)
  wt : Boxed W wB 3 (.int .i64 want)
  ky : Boxed W kB 68 kv
  dk : Boxed W dB 26 (.pointer (some ⟨d, 0, none⟩))
  ix : Boxed W iB 3 (.int .i64 i)
  st : Boxed W sB 3 (.int .i64 stop)
  row : W.ownsRow kb 3 1 kv ks.length (ints ks)
  rf : Rf W base br kr vr Fr
  c : W.cell? ⟨d, 16 + i, none⟩ = some (.pointer (some ⟨br, 0, none⟩))
  a1 : nB ≠ wB ∧ nB ≠ iB ∧ nB ≠ sB
  a2 : some okB ≠ kv.ownBlock ∧ some nB ≠ kv.ownBlock
  a3 : okB ≠ d ∧ nB ≠ d
  a4 : okB ∉ Fr ∧ nB ∉ Fr

theorem Sv.turn {okB nB wB kB dB iB sB d i br base kb : Nat} {kv : Value} {ks kr : List Int} {vr : List Int} {want : Nat} {stop : Int} {Fr : List Nat} {j j' : Nat} {W W' : World} (h : Sv okB nB wB kB dB iB sB d i br base kb kv ks kr vr want stop Fr j W) (ht : Touch [okB, nB] W W') (ho : Boxed W' okB 4 (.bool true)) (hn : Boxed W' nB 3 (.int .i64 j')) :
    Sv okB nB wB kB dB iB sB d i br base kb kv ks kr vr want stop Fr j' W' := by
  obtain ⟨h1, h2, h3, h4, h5, h6, h7, h8, h9, h10, a1, a2, a3, a4⟩ := h
  have o_w : wB ≠ okB := boxed_ne h3 h1 (by decide)
  have o_k : kB ≠ okB := boxed_ne h4 h1 (by decide)
  have n_k : kB ≠ nB := boxed_ne h4 h2 (by decide)
  have o_d : dB ≠ okB := boxed_ne h5 h1 (by decide)
  have n_d : dB ≠ nB := boxed_ne h5 h2 (by decide)
  have o_i : iB ≠ okB := boxed_ne h6 h1 (by decide)
  have o_s : sB ≠ okB := boxed_ne h7 h1 (by decide)
  refine ⟨ho, hn, box_touch h3 ht (by simp [o_w, a1.1.symm]), box_touch h4 ht (by simp [o_k, n_k]), box_touch h5 ht (by simp [o_d, n_d]), box_touch h6 ht (by simp [o_i, a1.2.1.symm]), box_touch h7 ht (by simp [o_s, a1.2.2.symm]), row_keep h8 ht (fun q hq hm => ?_), h9.keep ht (fun q hq hm => ?_), ?_, a1, a2, a3, a4⟩
  · simp at hm
    rcases hm with rfl | rfl
    · exact a2.1 hq.symm
    · exact a2.2 hq.symm
  · simp at hm
    rcases hm with rfl | rfl
    · exact a4.1 hq
    · exact a4.2 hq
  · rw [World.cell?_of_block (w := W) (ht.block d (World.block_lt_of_cell? _ _ h10) (by simp [a3.1.symm, a3.2.symm]))]
    exact h10

set_option maxHeartbeats 4000000 in
theorem all1_core (okB nB wB kB dB iB sB d i br base kb : Nat) (kv : Value) (ks kr : List Int) (vr : List Int) (want : Nat) (stop : Int) (Fr : List Nat) (j : Nat) (W : World) (h : Sv okB nB wB kB dB iB sB d i br base kb kv ks kr vr want stop Fr j W) (k : Int) (x : Int) (hk : ks[j]? = some k) (hi : i < 2) (hjw : j < want) (hks : ks.length < 1000000)
    (hg : ∀ W1, Rf W1 base br kr vr Fr → Calls Tryz.prog 57 #[.pointer (some ⟨br, 0, none⟩), .int .i64 k] W1 fun e w' => e = .returned (.tuple #[.int .u64 x, .bool true]) ∧ w' = W1) (r : Bool) (hr : ((j : Int) + 1 == stop) = !r) :
    Calls Tryz.prog 95 (#[.int .i64 k, .int .u64 x] ++ #[.pointer (some ⟨okB, 0, none⟩), .pointer (some ⟨nB, 0, none⟩), .pointer (some ⟨wB, 0, none⟩), .pointer (some ⟨kB, 0, none⟩), .pointer (some ⟨dB, 0, none⟩), .pointer (some ⟨iB, 0, none⟩), .pointer (some ⟨sB, 0, none⟩)]) W fun e W' => e = .returned (.bool r) ∧
      Sv okB nB wB kB dB iB sB d i br base kb kv ks kr vr want stop Fr (j + 1) W' ∧ Touch [okB, nB] W W' := by
  have hjl : j < ks.length := (List.getElem?_eq_some_iff.1 hk).1
  have hji : (j : Int) < (ks.length : Int) := by omega
  have hjw' : (j : Int) < (want : Int) := by omega
  have hi' : (i : Int) < 2 := by omega
  have n_o : nB ≠ okB := boxed_ne h.n h.ok (by decide)
  obtain ⟨a, cap, hkv, hcell⟩ := row_sl h.row
  obtain ⟨g, ha, hcx, -⟩ := hcell j (.int .i64 k) (by simp [hk])
  subst ha
  have c1 := h.ok.cell
  have f1 := h.ok.frozen
  have c2 := h.n.cell
  have c3 := h.wt.cell
  have c4 := h.ky.cell
  rw [hkv] at c4
  have t1 : Touch [okB, nB] W (W.setCell ⟨okB, 0, none⟩ (.bool true)) := Touch.setCell _ _ _ (by simp)
  have h1 := h.turn t1 (h.ok.set _) (h.n.other n_o _)
  have Hg : Hid (∀ W1, Rf W1 base br kr vr Fr → Calls Tryz.prog 57 #[.pointer (some ⟨br, 0, none⟩), .int .i64 k] W1 fun e w' => e = .returned (.tuple #[.int .u64 x, .bool true]) ∧ w' = W1) := hg
  clear hcell hg hk hkv h
  simp only [List.append_toArray, List.nil_append, List.cons_append]
  go_enter Tryz.func95, Tryz.ntmps95
  go_upto_region 2 with fail
  generalize W.setCell ⟨okB, 0, none⟩ (.bool true) = W1 at t1 h1 ⊢
  clear c1 f1 c2 c3 c4 hcx
  have d1 := h1.ok.cell
  have d5 := h1.dk.cell
  have d6 := h1.ix.cell
  have d7 := h1.c
  have hgq : ∀ q, Calls Tryz.prog 57 #[.pointer (some ⟨br, 0, none⟩), .int .i64 k] (W1.drewN q) fun e w' => e = .returned (.tuple #[.int .u64 x, .bool true]) ∧ w' = W1.drewN q := fun q => Hg.out _ (h1.rf.keep (Touch.drewN [] W1 q) (by intro k _ h; simp at h))
  have H1 : Hid (Sv okB nB wB kB dB iB sB d i br base kb kv ks kr vr want stop Fr j W1) := h1
  have T1 : Hid (Touch [okB, nB] W W1) := t1
  clear h1 t1 Hg
  go_wp2_with fail
  go_quiet ((go_at_call 57; exact Calls.quiet_of_same (hgq _)))
  clear hgq d1 d5 d6 d7
  have H2 : Hid (Sv okB nB wB kB dB iB sB d i br base kb kv ks kr vr want stop Fr j (W1.drewN nq)) := H1.out.turn (Touch.drewN _ _ _) H1.out.ok H1.out.n
  have T2 : Hid (Touch [okB, nB] W (W1.drewN nq)) := T1.out.trans (Touch.drewN _ _ _)
  clear H1 T1
  go_upto_region 4 with fail
  generalize W1.drewN nq = W2 at H2 T2 ⊢
  have e1 := H2.out.ok.cell
  have f1 := H2.out.ok.frozen
  have t3 : Touch [okB, nB] W2 (W2.setCell ⟨okB, 0, none⟩ (.bool true)) := Touch.setCell _ _ _ (by simp)
  have H3 : Hid (Sv okB nB wB kB dB iB sB d i br base kb kv ks kr vr want stop Fr j (W2.setCell ⟨okB, 0, none⟩ (.bool true))) := H2.out.turn t3 (H2.out.ok.set _) (H2.out.n.other n_o _)
  have T3 : Hid (Touch [okB, nB] W (W2.setCell ⟨okB, 0, none⟩ (.bool true))) := T2.out.trans t3
  clear H2 T2 t3
  go_upto_region 5 with fail
  generalize W2.setCell ⟨okB, 0, none⟩ (.bool true) = W3 at H3 T3 ⊢
  clear e1 f1
  have e2 := H3.out.n.cell
  have f2 := H3.out.n.frozen
  have t4 : Touch [okB, nB] W3 (W3.setCell ⟨nB, 0, none⟩ (.int .i64 ((j : Int) + 1))) := Touch.setCell _ _ _ (by simp)
  have H4 : Hid (Sv okB nB wB kB dB iB sB d i br base kb kv ks kr vr want stop Fr (j + 1) (W3.setCell ⟨nB, 0, none⟩ (.int .i64 ((j : Int) + 1)))) := H3.out.turn t4 (H3.out.ok.other n_o.symm _) (H3.out.n.set _)
  have T4 : Hid (Touch [okB, nB] W (W3.setCell ⟨nB, 0, none⟩ (.int .i64 ((j : Int) + 1)))) := T3.out.trans t4
  clear H3 T3 t4
  go_upto_region 6 with fail
  generalize W3.setCell ⟨nB, 0, none⟩ (.int .i64 ((j : Int) + 1)) = W4 at H4 T4 ⊢
  clear e2 f2
  have g1 := H4.out.ok.cell
  have g2 := H4.out.n.cell
  have g3 := H4.out.st.cell
  have hcst : ((j + 1 : Nat) : Int) = (j : Int) + 1 := by omega
  rw [hcst] at g2
  go_wp2
  go_ret
  exact ⟨by simp [bne, hr], H4.out, T4.out⟩

end Go.Proofs.YtcjblafohfiiaabGreat.Wd
