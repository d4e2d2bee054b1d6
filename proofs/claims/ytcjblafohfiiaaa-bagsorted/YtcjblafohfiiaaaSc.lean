/-
  BagSorted's closure.
-/
import Derived.Test.YtcjblafohfiiaaaSl
import Derived.Test.YtcjblafohfiiaaaWn
import Derived.Deep.Cut
import Derived.Deep.DeepCutAuto
set_option linter.unusedVariables false
namespace Go.Proofs.Ytcjblafohfiiaaa
open Go.RowKit Go.Shelf

theorem getI_yes (b base p : Nat) (k x : Int) (ks : List Int) (vs : List Int) (F : List Nat) (w : World) (h : ITab w base b ks vs F) (hlen : ks.length < 1000000) (hp : CutAt ltI ks k p) (hf : ks[p]? = some k) (hx : vs[p]? = some x) :
    Calls Try.prog 23 #[.pointer (some ⟨b, 0, none⟩), .int .i64 k] w fun e w' => e = .returned (.tuple #[.int .u64 x, .bool true]) ∧ w' = w := by
  obtain ⟨vk, vv, hh, hb, hk, hv, hl, hs, rfl⟩ := h
  have hpl : p < ks.length := (List.getElem?_eq_some_iff.1 hf).1
  have hc0 := heap_cell hh 0
  have hc1 := heap_cell hh 1
  simp only [List.getElem?_toArray, List.getElem?_cons_zero, List.getElem?_cons_succ] at hc0 hc1
  rcases hk.2 with ⟨_, h0⟩ | ⟨g, cap, cur, rfl, _⟩
  · omega
  rcases hv.2 with ⟨_, h0⟩ | ⟨g', cap', cur', rfl, _⟩
  · omega
  rw [hl] at hc1
  have hcell' : w.cell? ⟨g', p, none⟩ = some (.int .u64 x) := by rw [hv.cellAt _ (by omega)]; simp [hx]
  exact getI_core b g g' cap cap' ks.length p k x w hc0 hc1 (placeI_at base p _ ks k w hk hs hlen hp true (by simp [hf])) hpl hlen hcell'

/-- The variables that the closure takes. -/
structure Sv (tB okB nB laB lB aB neB foB bt k : Nat) (lv : Value) (ask last near : Int) (found : Bool) (W : World) : Prop where
  t : Boxed W tB 38 (.pointer (some ⟨bt, 0, none⟩))
  ok : Boxed W okB 4 (.bool true)
  n : Boxed W nB 3 (.int .i64 k)
  la : Boxed W laB 3 (.int .i64 last)
  l : Boxed W lB 22 lv
  a : Boxed W aB 3 (.int .i64 ask)
  ne : Boxed W neB 3 (.int .i64 near)
  fo : Boxed W foB 4 (.bool found)
  d1 : nB ≠ laB
  d2 : nB ≠ aB
  d3 : nB ≠ neB
  d4 : laB ≠ aB
  d5 : laB ≠ neB
  d6 : aB ≠ neB
  d7 : okB ≠ foB

theorem Sv.setOk {tB okB nB laB lB aB neB foB bt k : Nat} {lv : Value} {ask last near : Int} {found : Bool} {W : World} (h : Sv tB okB nB laB lB aB neB foB bt k lv ask last near found W) : Sv tB okB nB laB lB aB neB foB bt k lv ask last near found (W.setCell ⟨okB, 0, none⟩ (.bool true)) :=
  ⟨h.t.other (boxed_ne h.t h.ok (by decide)) _, h.ok.set _, h.n.other (boxed_ne h.n h.ok (by decide)) _, h.la.other (boxed_ne h.la h.ok (by decide)) _, h.l.other (boxed_ne h.l h.ok (by decide)) _, h.a.other (boxed_ne h.a h.ok (by decide)) _, h.ne.other (boxed_ne h.ne h.ok (by decide)) _, h.fo.other h.d7.symm _, h.d1, h.d2, h.d3, h.d4, h.d5, h.d6, h.d7⟩

theorem Sv.setNe {tB okB nB laB lB aB neB foB bt k : Nat} {lv : Value} {ask last near : Int} {found : Bool} {W : World} (h : Sv tB okB nB laB lB aB neB foB bt k lv ask last near found W) (x : Int) : Sv tB okB nB laB lB aB neB foB bt k lv ask last x found (W.setCell ⟨neB, 0, none⟩ (.int .i64 x)) :=
  ⟨h.t.other (boxed_ne h.t h.ne (by decide)) _, h.ok.other (boxed_ne h.ok h.ne (by decide)) _, h.n.other h.d3 _, h.la.other h.d5 _, h.l.other (boxed_ne h.l h.ne (by decide)) _, h.a.other h.d6 _, h.ne.set _, h.fo.other (boxed_ne h.fo h.ne (by decide)) _, h.d1, h.d2, h.d3, h.d4, h.d5, h.d6, h.d7⟩

theorem Sv.setFo {tB okB nB laB lB aB neB foB bt k : Nat} {lv : Value} {ask last near : Int} {found : Bool} {W : World} (h : Sv tB okB nB laB lB aB neB foB bt k lv ask last near found W) : Sv tB okB nB laB lB aB neB foB bt k lv ask last near true (W.setCell ⟨foB, 0, none⟩ (.bool true)) :=
  ⟨h.t.other (boxed_ne h.t h.fo (by decide)) _, h.ok.other h.d7 _, h.n.other (boxed_ne h.n h.fo (by decide)) _, h.la.other (boxed_ne h.la h.fo (by decide)) _, h.l.other (boxed_ne h.l h.fo (by decide)) _, h.a.other (boxed_ne h.a h.fo (by decide)) _, h.ne.other (boxed_ne h.ne h.fo (by decide)) _, h.fo.set _, h.d1, h.d2, h.d3, h.d4, h.d5, h.d6, h.d7⟩

theorem Sv.setLa {tB okB nB laB lB aB neB foB bt k : Nat} {lv : Value} {ask last near : Int} {found : Bool} {W : World} (h : Sv tB okB nB laB lB aB neB foB bt k lv ask last near found W) (x : Int) : Sv tB okB nB laB lB aB neB foB bt k lv ask x near found (W.setCell ⟨laB, 0, none⟩ (.int .i64 x)) :=
  ⟨h.t.other (boxed_ne h.t h.la (by decide)) _, h.ok.other (boxed_ne h.ok h.la (by decide)) _, h.n.other h.d1 _, h.la.set _, h.l.other (boxed_ne h.l h.la (by decide)) _, h.a.other h.d4.symm _, h.ne.other h.d5.symm _, h.fo.other (boxed_ne h.fo h.la (by decide)) _, h.d1, h.d2, h.d3, h.d4, h.d5, h.d6, h.d7⟩

theorem Sv.setN {tB okB nB laB lB aB neB foB bt k : Nat} {lv : Value} {ask last near : Int} {found : Bool} {W : World} (h : Sv tB okB nB laB lB aB neB foB bt k lv ask last near found W) (k' : Nat) : Sv tB okB nB laB lB aB neB foB bt k' lv ask last near found (W.setCell ⟨nB, 0, none⟩ (.int .i64 k')) :=
  ⟨h.t.other (boxed_ne h.t h.n (by decide)) _, h.ok.other (boxed_ne h.ok h.n (by decide)) _, h.n.set _, h.la.other h.d1.symm _, h.l.other (boxed_ne h.l h.n (by decide)) _, h.a.other h.d2.symm _, h.ne.other h.d3.symm _, h.fo.other (boxed_ne h.fo h.n (by decide)) _, h.d1, h.d2, h.d3, h.d4, h.d5, h.d6, h.d7⟩

theorem Sv.touch {tB okB nB laB lB aB neB foB bt k : Nat} {lv : Value} {ask last near : Int} {found : Bool} {W : World} {W' : World} {F : List Nat} (h : Sv tB okB nB laB lB aB neB foB bt k lv ask last near found W) (ht : Touch F W W') (hF : ∀ q, q ∈ [tB, okB, nB, laB, lB, aB, neB, foB] → q ∉ F) : Sv tB okB nB laB lB aB neB foB bt k lv ask last near found W' :=
  ⟨box_touch h.t ht (hF _ (by simp)), box_touch h.ok ht (hF _ (by simp)), box_touch h.n ht (hF _ (by simp)), box_touch h.la ht (hF _ (by simp)), box_touch h.l ht (hF _ (by simp)), box_touch h.a ht (hF _ (by simp)), box_touch h.ne ht (hF _ (by simp)), box_touch h.fo ht (hF _ (by simp)), h.d1, h.d2, h.d3, h.d4, h.d5, h.d6, h.d7⟩

theorem Sv.lt {tB okB nB laB lB aB neB foB bt k : Nat} {lv : Value} {ask last near : Int} {found : Bool} {W : World} (h : Sv tB okB nB laB lB aB neB foB bt k lv ask last near found W) : ∀ q, q ∈ [tB, okB, nB, laB, lB, aB, neB, foB] → q < W.heap.size := by
  intro q hq
  simp at hq
  rcases hq with rfl | rfl | rfl | rfl | rfl | rfl | rfl | rfl
  · exact h.t.lt
  · exact h.ok.lt
  · exact h.n.lt
  · exact h.la.lt
  · exact h.l.lt
  · exact h.a.lt
  · exact h.ne.lt
  · exact h.fo.lt

set_option maxHeartbeats 4000000 in
theorem srt1_core (tB okB nB laB lB aB neB foB bt k m b off cap : Nat) (ask last near x : Int) (found : Bool) (xs : List Int) (W : World) (h : Sv tB okB nB laB lB aB neB foB bt k (.slice (some ⟨b, off, none⟩) xs.length cap) ask last near found W)
    (hget : Calls Try.prog 23 #[.pointer (some ⟨bt, 0, none⟩), .int .i64 x] W fun e w' => e = .returned (.tuple #[.int .u64 (m : Int), .bool true]) ∧ w' = W)
    (hc : W.cell? ⟨b, off + m, none⟩ = some (.int .i64 x)) (hm : m < xs.length) (hlen : xs.length < 1000) (hk : k < xs.length) (hor : k = 0 ∨ last < x) :
    Calls Try.prog 22 (#[.int .i64 x, .int .u64 (m : Int)] ++ #[.pointer (some ⟨tB, 0, none⟩), .pointer (some ⟨okB, 0, none⟩), .pointer (some ⟨nB, 0, none⟩), .pointer (some ⟨laB, 0, none⟩), .pointer (some ⟨lB, 0, none⟩), .pointer (some ⟨aB, 0, none⟩), .pointer (some ⟨neB, 0, none⟩), .pointer (some ⟨foB, 0, none⟩)]) W fun e W' => e = .returned (.bool true) ∧
      Sv tB okB nB laB lB aB neB foB bt (k + 1) (.slice (some ⟨b, off, none⟩) xs.length cap) ask x (if x ≤ ask then x else near) (if x ≤ ask then true else found) W' ∧ Touch [okB, nB, laB, neB, foB] W W' := by
  have e2 : Hid (Value.int .i64 ((k + 1 : Nat) : Int) = .int .i64 ((k : Int) + 1)) := by show _ = _; simp
  have c1 := h.t.cell
  have c2 := h.ok.cell
  have c3 := h.n.cell
  have c4 := h.la.cell
  have c5 := h.l.cell
  have f1 := h.ok.frozen
  have hmi : (m : Int) < xs.length := by omega
  have H0 : Hid (Sv tB okB nB laB lB aB neB foB bt k (.slice (some ⟨b, off, none⟩) xs.length cap) ask last near found W) := h
  clear h
  simp only [List.append_toArray, List.nil_append, List.cons_append]
  go_enter Try.func22, Try.ntmps22
  go_wp2_with fail
  refine hget.mono ?_
  rintro e w' ⟨rfl, rfl⟩
  clear hget
  have hor2 : k = 0 ∨ (¬ ((k : Int) = 0) ∧ last < x) := by omega
  clear hor
  rcases hor2 with rfl | ⟨hk0, hlx⟩
  all_goals
    go_upto_region 3 with fail
    have h1 := H0.out.setOk
    have t1 : Touch [okB, nB, laB, neB, foB] w' (w'.setCell ⟨okB, 0, none⟩ (.bool true)) := Touch.setCell _ _ _ (by simp)
    clear H0 c1 c2 c3 c4 c5 f1 hc
    generalize w'.setCell ⟨okB, 0, none⟩ (.bool true) = W1 at h1 t1 ⊢
    by_cases hxa : x ≤ ask
    · have hxb : x ≤ ask := hxa
      have ca := h1.a.cell
      have cn := h1.ne.cell
      have fn := h1.ne.frozen
      have h2 := h1.setNe x
      have cf := h2.fo.cell
      have ff := h2.fo.frozen
      have h3 := h2.setFo
      have t3 := (t1.trans (Touch.setCell (F := [okB, nB, laB, neB, foB]) W1 ⟨neB, 0, none⟩ (.int .i64 x) (by simp))).trans (Touch.setCell (F := [okB, nB, laB, neB, foB]) _ ⟨foB, 0, none⟩ (.bool true) (by simp))
      have H3 : Hid (Sv tB okB nB laB lB aB neB foB bt _ (.slice (some ⟨b, off, none⟩) xs.length cap) ask last x true ((W1.setCell ⟨neB, 0, none⟩ (.int .i64 x)).setCell ⟨foB, 0, none⟩ (.bool true))) := h3
      clear h1 h2 h3 t1
      go_upto_region 6 with fail
      have h4 := H3.out
      clear H3 ca cn fn cf ff
      generalize (W1.setCell ⟨neB, 0, none⟩ (.int .i64 x)).setCell ⟨foB, 0, none⟩ (.bool true) = W3 at h4 t3 ⊢
      have cla := h4.la.cell
      have fla := h4.la.frozen
      have h5 := h4.setLa x
      have t5 := t3.trans (Touch.setCell (F := [okB, nB, laB, neB, foB]) W3 ⟨laB, 0, none⟩ (.int .i64 x) (by simp))
      have H5 : Hid (Sv tB okB nB laB lB aB neB foB bt _ (.slice (some ⟨b, off, none⟩) xs.length cap) ask x x true (W3.setCell ⟨laB, 0, none⟩ (.int .i64 x))) := h5
      clear h4 h5 t3
      go_upto_region 7 with fail
      have h6 := H5.out
      clear H5 cla fla
      generalize W3.setCell ⟨laB, 0, none⟩ (.int .i64 x) = W4 at h6 t5 ⊢
      have cnn := h6.n.cell
      have fnn := h6.n.frozen
      first
        | (have h7 := h6.setN (k + 1); rw [e2.out] at h7; have t7 := t5.trans (Touch.setCell (F := [okB, nB, laB, neB, foB]) W4 ⟨nB, 0, none⟩ (.int .i64 ((k : Int) + 1)) (by simp)); have H7 : Hid (Sv tB okB nB laB lB aB neB foB bt (k + 1) (.slice (some ⟨b, off, none⟩) xs.length cap) ask x x true (W4.setCell ⟨nB, 0, none⟩ (.int .i64 ((k : Int) + 1)))) := h7; clear h6 h7 t5; go_upto_region 8 with fail; have h8 := H7.out; clear H7 cnn fnn; generalize W4.setCell ⟨nB, 0, none⟩ (.int .i64 ((k : Int) + 1)) = W5 at h8 t7 ⊢)
        | (have h7 := h6.setN 1; have t7 := t5.trans (Touch.setCell (F := [okB, nB, laB, neB, foB]) W4 ⟨nB, 0, none⟩ (.int .i64 1) (by simp)); have H7 : Hid (Sv tB okB nB laB lB aB neB foB bt 1 (.slice (some ⟨b, off, none⟩) xs.length cap) ask x x true (W4.setCell ⟨nB, 0, none⟩ (.int .i64 1))) := h7; clear h6 h7 t5; go_upto_region 8 with fail; have h8 := H7.out; clear H7 cnn fnn; generalize W4.setCell ⟨nB, 0, none⟩ (.int .i64 1) = W5 at h8 t7 ⊢)
      have k1 := h8.ok.cell
      have k2 := h8.n.cell
      have k3 := h8.l.cell
      have H8 : Hid (Sv tB okB nB laB lB aB neB foB bt _ (.slice (some ⟨b, off, none⟩) xs.length cap) ask x x true W5) := h8
      clear h8
      first | (have hki1 : (k : Int) + 1 ≤ xs.length := by omega) | (have hki1 : (1 : Int) ≤ xs.length := by omega)
      go_wp2
      go_ret
      exact ⟨rfl, by first | exact H8.out | (rw [if_pos (by omega), if_pos (by omega)]; exact H8.out), t7⟩
    · have ca := h1.a.cell
      have H3 : Hid (Sv tB okB nB laB lB aB neB foB bt _ (.slice (some ⟨b, off, none⟩) xs.length cap) ask last near found W1) := h1
      have t3 := t1
      clear h1 t1
      go_upto_region 6 with fail
      have h4 := H3.out
      clear H3 ca
      generalize W1 = W3 at h4 t3 ⊢
      have cla := h4.la.cell
      have fla := h4.la.frozen
      have h5 := h4.setLa x
      have t5 := t3.trans (Touch.setCell (F := [okB, nB, laB, neB, foB]) W3 ⟨laB, 0, none⟩ (.int .i64 x) (by simp))
      have H5 : Hid (Sv tB okB nB laB lB aB neB foB bt _ (.slice (some ⟨b, off, none⟩) xs.length cap) ask x near found (W3.setCell ⟨laB, 0, none⟩ (.int .i64 x))) := h5
      clear h4 h5 t3
      go_upto_region 7 with fail
      have h6 := H5.out
      clear H5 cla fla
      generalize W3.setCell ⟨laB, 0, none⟩ (.int .i64 x) = W4 at h6 t5 ⊢
      have cnn := h6.n.cell
      have fnn := h6.n.frozen
      first
        | (have h7 := h6.setN (k + 1); rw [e2.out] at h7; have t7 := t5.trans (Touch.setCell (F := [okB, nB, laB, neB, foB]) W4 ⟨nB, 0, none⟩ (.int .i64 ((k : Int) + 1)) (by simp)); have H7 : Hid (Sv tB okB nB laB lB aB neB foB bt (k + 1) (.slice (some ⟨b, off, none⟩) xs.length cap) ask x near found (W4.setCell ⟨nB, 0, none⟩ (.int .i64 ((k : Int) + 1)))) := h7; clear h6 h7 t5; go_upto_region 8 with fail; have h8 := H7.out; clear H7 cnn fnn; generalize W4.setCell ⟨nB, 0, none⟩ (.int .i64 ((k : Int) + 1)) = W5 at h8 t7 ⊢)
        | (have h7 := h6.setN 1; have t7 := t5.trans (Touch.setCell (F := [okB, nB, laB, neB, foB]) W4 ⟨nB, 0, none⟩ (.int .i64 1) (by simp)); have H7 : Hid (Sv tB okB nB laB lB aB neB foB bt 1 (.slice (some ⟨b, off, none⟩) xs.length cap) ask x near found (W4.setCell ⟨nB, 0, none⟩ (.int .i64 1))) := h7; clear h6 h7 t5; go_upto_region 8 with fail; have h8 := H7.out; clear H7 cnn fnn; generalize W4.setCell ⟨nB, 0, none⟩ (.int .i64 1) = W5 at h8 t7 ⊢)
      have k1 := h8.ok.cell
      have k2 := h8.n.cell
      have k3 := h8.l.cell
      have H8 : Hid (Sv tB okB nB laB lB aB neB foB bt _ (.slice (some ⟨b, off, none⟩) xs.length cap) ask x near found W5) := h8
      clear h8
      first | (have hki1 : (k : Int) + 1 ≤ xs.length := by omega) | (have hki1 : (1 : Int) ≤ xs.length := by omega)
      go_wp2
      go_ret
      exact ⟨rfl, by first | exact H8.out | (rw [if_neg (by omega), if_neg (by omega)]; exact H8.out), t7⟩

end Go.Proofs.Ytcjblafohfiiaaa
