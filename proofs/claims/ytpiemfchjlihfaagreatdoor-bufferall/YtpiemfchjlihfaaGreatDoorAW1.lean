/-
  middenlay.walked: a space's addresses. (Printed by mkAW1.py.)
-/
import Derived.Test.YtpiemfchjlihfaaGreatDoorPB2
import Derived.Test.YtpiemfchjlihfaaGreatDoorA10c
import Derived.Test.YtpiemfchjlihfaaGreatDoorHK
import Derived.Test.YtpiemfchjlihfaaGreatDoorPKm
set_option linter.unusedVariables false
set_option maxRecDepth 20000
namespace Go.Proofs.YtpiemfchjlihfaaGreatDoor
open Go.RowKit Go.Shelf

/-- The list of what was met: a variable of its own, and its row. -/
structure Lj (n0 lb : Nat) (F : List Nat) (pre : List Int) (w : World) : Prop where
  ex : ∃ v, w.heap[lb]? = some (.cells #[v] 40 (0, 0)) ∧ w.ownsRow n0 3 1 v pre.length (ints pre) ∧ F = lb :: v.ownBlock.toList
  lo : n0 ≤ lb

theorem Lj.lt {n0 lb : Nat} {F : List Nat} {pre : List Int} {w : World} (h : Lj n0 lb F pre w) : ∀ q, q ∈ F → q < w.heap.size := by
  obtain ⟨v, h1, h2, rfl⟩ := h.ex
  intro q hq
  simp only [List.mem_cons, Option.mem_toList] at hq
  rcases hq with rfl | hq
  · exact (Array.getElem?_eq_some_iff.1 h1).1
  · exact row_lt h2 q hq

theorem Lj.below {n0 lb : Nat} {F : List Nat} {pre : List Int} {w w' : World} (h : Lj n0 lb F pre w) (l : Below w.heap.size w w') : Lj n0 lb F pre w' := by
  obtain ⟨v, h1, h2, h3⟩ := h.ex
  exact ⟨⟨v, (l.block lb (Array.getElem?_eq_some_iff.1 h1).1).trans h1, row_keep h2 (fun q hq => l.block q (row_lt h2 q hq)), h3⟩, h.lo⟩

set_option maxHeartbeats 2000000 in
theorem wc_any {n0 lb : Nat} {F : List Nat} {pre : List Int} {w : World} (h : Lj n0 lb F pre w) (hl : pre.length < 60000) (hn0 : n0 ≤ w.heap.size) (a s k p r ag y : Int) (hh : Bool) :
    Calls Tryz.prog 76 #[.int .i64 a, hv s k p r ag y hh, .pointer (some ⟨lb, 0, none⟩)] w fun e w' => Touch F w w' ∧ e = .returned (.bool true) ∧ ∃ F', Newer w.heap.size F F' ∧ Lj n0 lb F' (pre ++ [a]) w' := by
  obtain ⟨v, h1, h2, hF⟩ := h.ex
  have hlo := h.lo
  obtain ⟨w0, hw0⟩ : ∃ q, q = w.alloc (.cells (hcells s k p r ag y hh) 46) := ⟨_, rfl⟩
  have b0 : Below w.heap.size w w0 := by rw [hw0]; exact Below.alloc (Below.refl _ _) (Nat.le_refl _) _
  have hlb : lb < w.heap.size := (Array.getElem?_eq_some_iff.1 h1).1
  have h10 := (b0.block lb hlb).trans h1
  have h20 : w0.ownsRow n0 3 1 v pre.length (ints pre) := row_keep h2 (fun q hq => b0.block q (row_lt h2 q hq))
  have hnv : some lb ≠ v.ownBlock := row_ne h10 h20 (by decide)
  have c0 : w0.cell? ⟨lb, 0, none⟩ = some v := cell_of_row _ _ 0 _ _ _ h10
  obtain ⟨i0, hi, hz0, hz1, hz2⟩ := info_parts Tryz.infoInt
  have HB0 : Hid (Below w.heap.size w w0) := b0
  have HR : Hid (w0.heap[lb]? = some (.cells #[v] 40 (0, 0)) ∧ some lb ≠ v.ownBlock ∧ lb < w0.heap.size ∧ n0 ≤ lb) := ⟨h10, hnv, Nat.lt_of_lt_of_le hlb b0.size, hlo⟩
  have HF : Hid (F = lb :: v.ownBlock.toList) := hF
  have HS : Hid (w.heap.size ≤ w0.heap.size ∧ n0 ≤ w0.heap.size) := ⟨b0.size, Nat.le_trans hn0 b0.size⟩
  clear h1 h2 hF b0 h10 hnv hlb h hlo hn0
  go_enter Tryz.func76, Tryz.ntmps76
  go_upto_region 1 with fail
  rw [← hw0]
  clear hw0
  go_wp2_with (at_builtin; refine wpList_append_own_at _ rfl _ _ 40 rfl n0 3 i0 (.int .i64 0) 1 8 Tryz.underlying40 hi hz0 hz1 hz2 rfl (by decide) _ _ _ rfl (h20.alloc _) ⟨w0.heap.size, 0, none⟩ 1 1 [.int .i64 a] rfl rfl (cell_one_new _ _ _) (by simp [Value.oneCell']) (by simp [maxLen]; omega) (by omega) (by simp; have := HS.out; omega) ?_)
  intro v' w1 ra1 hgrow _ hat
  obtain ⟨g', cap', rfl⟩ := ownsRow_succ ra1
  have kb : ∀ q, q < w0.heap.size → some q ≠ v.ownBlock → w1.heap[q]? = w0.heap[q]? := fun q hq hn => (hgrow.block q (by simp; omega) hn).trans (Below.heap_alloc _ _ _ hq)
  have hc1 : w1.heap[lb]? = some (.cells #[v] 40 (0, 0)) := (kb lb HR.out.2.2.1 HR.out.2.1).trans HR.out.1
  have d0 : w1.cell? ⟨lb, 0, none⟩ = some v := cell_of_row _ _ 0 _ _ _ hc1
  have y0 : w1.frozen? ⟨lb, 0, none⟩ = false := Kg.heap_frozen hc1 0
  have hlg : some lb ≠ Value.ownBlock (.slice (some ⟨g', 0, none⟩) (pre.length + 1) cap') := row_ne hc1 ra1 (by decide)
  have hl2 : (w1.setCell ⟨lb, 0, none⟩ (.slice (some ⟨g', 0, none⟩) (pre.length + 1) cap')).heap[lb]? = some (.cells #[.slice (some ⟨g', 0, none⟩) (pre.length + 1) cap'] 40 (0, 0)) := by
    have := Kg.heap_set hc1 0 (.slice (some ⟨g', 0, none⟩) (pre.length + 1) cap')
    simpa using this
  have ra2 : (w1.setCell ⟨lb, 0, none⟩ (.slice (some ⟨g', 0, none⟩) (pre.length + 1) cap')).ownsRow n0 3 1 (.slice (some ⟨g', 0, none⟩) (pre.length + 1) cap') (pre.length + 1) (ints pre ++ [.int .i64 a]) := row_keep ra1 (fun q hq => Below.heap_setCell _ _ _ _ (fun e => hlg (by rw [hq]; exact congrArg some e.symm)))
  have d2 : (w1.setCell ⟨lb, 0, none⟩ (.slice (some ⟨g', 0, none⟩) (pre.length + 1) cap')).cell? ⟨lb, 0, none⟩ = some (.slice (some ⟨g', 0, none⟩) (pre.length + 1) cap') := cell_of_row _ _ 0 _ _ _ hl2
  have HT : Hid (Touch F w (w1.setCell ⟨lb, 0, none⟩ (.slice (some ⟨g', 0, none⟩) (pre.length + 1) cap'))) := by
    have t1 : Touch F w0 w1 := ⟨hgrow.os, hgrow.tape, hgrow.output, Nat.le_trans (by simp) hgrow.size, fun q hq hn => kb q hq (fun e => hn (by rw [HF.out]; simp [← e]))⟩
    exact ((Touch.of_below HB0.out F).trans t1).trans (Touch.setCell _ _ _ (by rw [HF.out]; simp))
  have HL : Hid (Lj n0 lb (lb :: (Value.ownBlock (.slice (some ⟨g', 0, none⟩) (pre.length + 1) cap')).toList) (pre ++ [a]) (w1.setCell ⟨lb, 0, none⟩ (.slice (some ⟨g', 0, none⟩) (pre.length + 1) cap')))  := ⟨⟨_, hl2, by simpa [ints] using ra2, rfl⟩, HR.out.2.2.2⟩
  have HN : Hid (Newer w.heap.size F (lb :: (Value.ownBlock (.slice (some ⟨g', 0, none⟩) (pre.length + 1) cap')).toList)) := fun q hq => by
    simp only [List.mem_cons, Option.mem_toList] at hq
    rw [HF.out]
    rcases hq with rfl | hq
    · exact .inl (by simp)
    · rcases hat with e | e
      · exact .inl (by rw [← e]; simp [hq])
      · rw [e] at hq
        have := HS.out
        have h9 : w0.heap.size + 1 = q := by simpa using hq
        exact .inr (by omega)
  clear ra1 ra2 hgrow kb hc1 hl2 hlg h20 c0 hi hz0 hz1 hz2
  have hlt7 : decide ((pre.length : Int) + 1 < 70000) = true := decide_eq_true (by omega)
  go_wp2
  go_returns
  exact ⟨HT.out, rfl, _, HN.out, HL.out⟩

theorem wc_enters : ∀ args w, (callFunc 76 args).run Tryz.prog w = .ok (.enter 76 args) w := enters_of Tryz.func76 (by kernel_rfl) rfl

theorem it_nil (ca cs : Nat) (w : World) : (binOp .eql 132 (itv ca cs) .nilFunc).run Tryz.prog w = .ok (.bool false) w := by kernel_rfl

theorem obs_length {L : List Sg} : ∀ {ws : Nat → Int} {a top : Nat}, Chn ws a top L → 2 * (obs a L).length ≤ szs L := by
  induction L with
  | nil => intro ws a top h; simp [obs, szs]
  | cons g L ih =>
    intro ws a top h
    have h1 := ih h.2
    simp only [obs, szs]
    split
    · rename_i o e
      obtain ⟨m, s⟩ := o
      have := h.1.two e
      simp only [List.length_cons]
      omega
    · omega

/-- Each space of the arena can be walked. -/
theorem comes_all {c : Cfg} {ws : Nat → Int} {top : Nat} {L : List Sg} (ok : c.Ok) (hc : Chn ws 1 top L) (ht : (top : Int) ≤ 1 + c.eden) : ∀ s, 1 ≤ s ∧ s ≤ 4 → Comes c (xt c top) ws s := by
  intro s hs
  have e0 := ok.e0
  have s0 := ok.s0
  have t0 := ok.t0
  obtain rfl | rfl | rfl | rfl : s = 1 ∨ s = 2 ∨ s = 3 ∨ s = 4 := by omega
  · obtain ⟨p, h1, h2⟩ := chn_walk (c := c) (by unfold Cfg.words; omega) hc
    exact ⟨_, p, h1, h2⟩
  · exact ⟨[], _, .done (.inl (Int.le_refl _)), .done (Int.le_refl _)⟩
  · exact ⟨[], _, .done (.inl (Int.le_refl _)), .done (Int.le_refl _)⟩
  · exact ⟨[], _, .done (.inl (Int.le_refl _)), .done (Int.le_refl _)⟩

set_option maxHeartbeats 4000000 in
theorem walked_s {w : World} {ab ag : Nat} {c : Cfg} {x : Tps} {ws : Nat → Int} (S : Int) (l : List Int) (p : Int) (h1 : Past c ws (x.top S) (fst c S) p) (h2 : Walk c ws (x.top S) p l (x.top S)) (hlen : l.length ≤ 40000) (hA : Ar w ab ag c x false ws) (hL : Laid w) :
    Calls Tryz.prog 34 #[.pointer (some ⟨ab, 0, none⟩), .int .i64 S] w fun e w' => ∃ v, e = .returned (.tuple #[v, .bool true]) ∧ w'.ownsRow w.heap.size 3 1 v l.length (ints l) ∧ Below w.heap.size w w' := by
  have HA : Hid (Ar w ab ag c x false ws ∧ Laid w) := ⟨hA, hL⟩
  have HW : Hid (Past c ws (x.top S) (fst c S) p ∧ Walk c ws (x.top S) p l (x.top S)) := ⟨h1, h2⟩
  have Hlt : Hid (ab < w.heap.size ∧ ag < w.heap.size ∧ 1 < w.heap.size ∧ 0 < w.heap.size) := ⟨hA.own.lt, hA.row.lt, hL.lt0, hL.lt1⟩
  clear h1 h2 hA hL
  go_enter Tryz.func34, Tryz.ntmps34
  go_wp2_with fail
  refine (objects_any ab S w).mono ?_
  rintro r w2 ⟨rfl, hw2⟩
  have i0 : It w2 ab ag w.heap.size (w.heap.size + 1) c x false ws S := by rw [hw2]; exact It.new HA.out.1 HA.out.2 S
  have B2 : Hid (Below w.heap.size w w2) := by rw [hw2]; exact Below.alloc (Below.alloc (Below.refl _ _) (Nat.le_refl _) _) (by simp) _
  have hs2 : w2.heap.size = w.heap.size + 2 := by rw [hw2]; simp
  have HI : Hid (It w2 ab ag w.heap.size (w.heap.size + 1) c x false ws S) := i0
  have Hs2 : Hid (w2.heap.size = w.heap.size + 2) := hs2
  clear hw2 i0 hs2
  have hnil := it_nil w.heap.size (w.heap.size + 1)
  go_upto_region 5 with fail
  have HJ : Hid (Lj w.heap.size w2.heap.size [w2.heap.size] [] (w2.alloc (.cells #[.slice none 0 0] 40))) := ⟨⟨_, heap_alloc_new w2 _, World.ownsRow_nil _ _ _ _, rfl⟩, by have := Hs2.out; omega⟩
  have b3 : Below w2.heap.size w2 (w2.alloc (.cells #[.slice none 0 0] 40)) := Below.alloc (Below.refl _ _) (Nat.le_refl _) _
  have HI3 : Hid (It (w2.alloc (.cells #[.slice none 0 0] 40)) ab ag w.heap.size (w.heap.size + 1) c x false ws S) := HI.out.below b3
  have B3 : Hid (Below w.heap.size w (w2.alloc (.cells #[.slice none 0 0] 40))) := B2.out.trans (b3.mono B2.out.size)
  clear b3 HI B2 hnil
  obtain ⟨lb, hlb⟩ : ∃ lb, lb = w2.heap.size := ⟨_, rfl⟩
  rw [← hlb] at HJ ⊢
  have Hlb : Hid (lb = w.heap.size + 2) := hlb.trans Hs2.out
  clear hlb Hs2
  generalize (w2.alloc (.cells #[.slice none 0 0] 40)) = w3 at HJ HI3 B3 ⊢
  have hwk := walk_cap ab ag w.heap.size (w.heap.size + 1) c x false ws S l p (x.top S) HW.out.1 HW.out.2 w3 HI3.out 76 (.pointer (some ⟨lb, 0, none⟩)) (fun F pre W => Lj w.heap.size lb F pre W ∧ w.heap.size ≤ W.heap.size) (fun _ _ => False) wc_enters
    (fun F pre W h => h.1.lt) (fun F pre W W' h l => ⟨h.1.below l, Nat.le_trans h.2 l.size⟩)
    (fun F pre a W h hpre => by
      have hln : pre.length + 1 ≤ l.length := by have := hpre.length_le; simpa using this
      refine (wc_any h.1 (by omega) h.2 a _ _ _ _ _ _ _).mono ?_
      rintro e w' ⟨ht, rfl, F', hn, hL'⟩
      exact ⟨ht, .inl ⟨rfl, F', hn, hL', Nat.le_trans h.2 ht.size⟩⟩)
    [lb] ⟨by have := Hlt.out; have := Hlb.out; simp; omega, by have := Hlt.out; have := Hlb.out; simp; omega, by have := Hlb.out; simp; omega, by have := Hlb.out; simp; omega, by have := Hlt.out; have := Hlb.out; simp; omega, by have := Hlt.out; have := Hlb.out; simp; omega⟩ ⟨HJ.out, B3.out.size⟩
  have Hwk := hwk
  clear hwk
  go_wp2_with fail
  refine Hwk.mono ?_
  rintro r w4 ⟨rfl, t4, hj⟩
  obtain ⟨F', -, hL4, -⟩ : ∃ F', Newer w3.heap.size [lb] F' ∧ Lj w.heap.size lb F' l w4 ∧ w.heap.size ≤ w4.heap.size := by
    rcases hj with h | ⟨_, _, _, h⟩
    · exact h
    · exact h.elim
  have B4 : Hid (Below w.heap.size w w4) := B3.out.trans (t4.below B3.out.size (fun q hq => by simp at hq; have := Hlb.out; omega))
  have HL4 : Hid (Lj w.heap.size lb F' l w4) := hL4
  obtain ⟨v, r1, r2, -⟩ := HL4.out.ex
  have HR : Hid (w4.ownsRow w.heap.size 3 1 v l.length (ints l)) := r2
  have k0 : w4.cell? ⟨lb, 0, none⟩ = some v := cell_of_row _ _ 0 _ _ _ r1
  obtain ⟨a9, cap9, hv9⟩ : ∃ a cap, v = .slice a l.length cap := by
    rcases r2.2 with ⟨h1, h2⟩ | ⟨q, cap, cur, h1, _⟩
    · exact ⟨none, 0, by rw [h1, h2]⟩
    · exact ⟨_, _, h1⟩
  subst hv9
  have hlt9 : (l.length : Int) < 70000 := by omega
  clear Hwk t4 hj hL4 HJ HI3 B3 r1 r2 HL4
  go_wp2
  go_quiet (fail)
  go_wp2
  go_ret2
  exact ⟨_, rfl, row_keep HR.out (fun q hq => rfl), B4.out.trans ((below_drewN (Below.refl _ _) nq).mono B4.out.size)⟩

end Go.Proofs.YtpiemfchjlihfaaGreatDoor
