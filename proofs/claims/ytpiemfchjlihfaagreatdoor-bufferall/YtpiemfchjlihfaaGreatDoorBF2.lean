/-
  A new object's words; a piece of eden; the filler; the object is laid.
-/
import Derived.Test.YtpiemfchjlihfaaGreatDoorBF1
import Derived.Test.YtpiemfchjlihfaaGreatDoorA9
import Derived.Laws.CopyRow
set_option linter.unusedVariables false
set_option maxRecDepth 20000
namespace Go.Proofs.YtpiemfchjlihfaaGreatDoor
open Go.RowKit

/-- The words of an object that has just been made. -/
def obw (m s : Int) : Nat → Int := fun j => if j = 0 then m else if j = 1 then s else 0

theorem obj_row (w : World) (m s : Int) (n : Nat) (h2 : 2 ≤ n) :
    (((w.alloc (.cells (madeCells #[.int .u64 0] n) 44)).alloc (.cells #[.int .u64 m, .int .u64 s] 44)).setRow w.heap.size ((madeCells #[.int .u64 0] n).toList.take 0 ++ [Value.int .u64 m, Value.int .u64 s] ++ (madeCells #[.int .u64 0] n).toList.drop (0 + 2)).toArray).rowIs w.heap.size 44 n (fun j => .int .u64 (obw m s j)) := by
  have h0 : ((w.alloc (.cells (madeCells #[.int .u64 0] n) 44)).alloc (.cells #[.int .u64 m, .int .u64 s] 44)).heap[w.heap.size]? = some (.cells (madeCells #[.int .u64 0] n) 44 (0, 0)) := by
    rw [Below.heap_alloc _ _ _ (by simp)]
    exact heap_alloc_new w _
  have hl : (madeCells #[.int .u64 0] n).toList = List.replicate n (Value.int .u64 0) := toList_madeCells_one _ _
  rw [hl] at *
  refine ⟨_, setRow_heap _ _ _ _ _ _ h0, ?_, fun i hi => ?_⟩
  · simp; omega
  · obtain ⟨k, rfl⟩ : ∃ k, n = k + 2 := ⟨n - 2, by omega⟩
    match i, hi with
    | 0, _ => simp [obw]
    | 1, _ => simp [obw]
    | j + 2, hj =>
      have hj' : j < k := by omega
      simp [obw, hj']

set_option maxHeartbeats 1000000 in
theorem bobject_any (m s : Int) (hm : Wd m) (hs : Wd s) (n : Nat) (hn : siz m = n) (h2 : 2 ≤ n) (h3 : n ≤ 70000) (w : World) (hL : Laid w) :
    Calls Tryz.prog 54 #[.int .u64 m, .int .u64 s] w fun e w' => ∃ g, e = .returned (.slice (some ⟨g, 0, none⟩) n n) ∧ w'.rowIs g 44 n (fun j => .int .u64 (obw m s j)) ∧ Below w.heap.size w w' ∧ w.heap.size ≤ g := by
  have q := size_any m hm w hL
  rw [hn] at q
  clear hn
  go_enter Tryz.func54, Tryz.ntmps54
  go_wp2_with fail
  refine q.mono ?_
  rintro e9 w1 ⟨rfl, b1⟩
  obtain ⟨i0, hi0, hz0, hz1, hz2⟩ := info_parts Tryz.infoU64
  have hmk : ∀ w, (Instr.makeSlice 65 (.int .i64 (n : Int)) (.int .i64 (n : Int))).run Tryz.prog w = .ok (.slice (some ⟨w.heap.size, 0, none⟩) n n) (w.alloc (.cells (madeCells #[.int .u64 0] n) 44)) := fun w => by
    have := run_make (P := Tryz.prog) w 65 44 i0 (.int .u64 0) Tryz.underlying65 hi0 hz0 .i64 .i64 n n (by omega) (Int.le_refl _) (by rw [hz2]; omega) (by omega)
    rw [hz1, Nat.mul_one] at this
    exact this
  have hcp := run_copy_row (P := Tryz.prog) ((w1.alloc (.cells (madeCells #[.int .u64 0] n) 44)).alloc (.cells #[.int .u64 m, .int .u64 s] 44)) 65 65 3 44 w1.heap.size 0 n n ⟨w1.heap.size + 1, 0, none⟩ 2 2 (madeCells #[.int .u64 0] n) 44 [.int .u64 m, .int .u64 s] Tryz.underlying65 (by kernel_rfl)
    (by rw [Below.heap_alloc _ _ _ (by simp)]; exact heap_alloc_new w1 _) (Nat.min_eq_left h2).symm (by
      intro j v hv
      have h9 := heap_alloc_new (w1.alloc (.cells (madeCells #[.int .u64 0] n) 44)) (.cells #[.int .u64 m, .int .u64 s] 44 (0, 0))
      rw [World.size_alloc] at h9
      match j, hv with
      | 0, hv => simp at hv; subst hv; exact cell_of_row _ _ 0 _ _ _ h9
      | 1, hv => simp at hv; subst hv; exact cell_of_row _ _ 1 _ _ _ h9
      | j + 2, hv => simp at hv) (by rw [size_madeCells]; simpa using h2) (by simp [Value.oneCell'])
  have HR : Hid (World.rowIs (((w1.alloc (.cells (madeCells #[.int .u64 0] n) 44)).alloc (.cells #[.int .u64 m, .int .u64 s] 44)).setRow w1.heap.size ((madeCells #[.int .u64 0] n).toList.take 0 ++ [Value.int .u64 m, Value.int .u64 s] ++ (madeCells #[.int .u64 0] n).toList.drop (0 + 2)).toArray) w1.heap.size 44 n (fun j => .int .u64 (obw m s j))) := obj_row w1 m s n h2
  have HB : Hid (Below w.heap.size w w1) := b1
  clear hi0 hz0 hz1 hz2 q b1
  go_wp2
  go_returns
  exact ⟨w1.heap.size, rfl, HR.out, below_setRow (Below.alloc (Below.alloc HB.out HB.out.size _) (by simp; have := HB.out.size; omega) _) HB.out.size _, HB.out.size⟩

/-- A piece is taken at eden's top. -/
theorem btaken_any {w : World} {ab ag : Nat} {c : Cfg} {x : Tps} {sw : Bool} {ws : Nat → Int} (hA : Ar w ab ag c x sw ws) (q n : Nat) (hq : x.t1 = q) (hn : 0 < n) (h1 : (q : Int) + n ≤ 1 + c.eden) :
    Calls Tryz.prog 55 #[.pointer (some ⟨ab, 0, none⟩), .int .i64 n] w fun e w' => e = .returned (.agg #[.int .i64 q, .int .i64 n]) ∧ Ar w' ab ag c (x.put 1 (q + n)) sw (zer ws q n) ∧ Touch [ab, ag] w w' := by
  have b0 : Below w.heap.size w (w.alloc (.cells #[.int .i64 0, .int .i64 0] 72)) := Below.alloc (Below.refl _ _) (Nat.le_refl _) _
  have qt := take_yes ab ag c x sw ws 1 q n hq hn h1 _ (hA.below b0)
  have HP : Hid ((w.alloc (.cells #[.int .i64 0, .int .i64 0] 72)).heap[w.heap.size]? = some (.cells #[.int .i64 0, .int .i64 0] 72 (0, 0))) := heap_alloc_new w _
  have hl1 := hA.own.lt
  have hl2 := hA.row.lt
  have Hl : Hid (w.heap.size ≠ ab ∧ w.heap.size ≠ ag) := ⟨by omega, by omega⟩
  have HB0 : Hid (Below w.heap.size w (w.alloc (.cells #[.int .i64 0, .int .i64 0] 72))) := b0
  have hs : (w.alloc (.cells #[.int .i64 0, .int .i64 0] 72)).heap.size = w.heap.size + 1 := by simp
  have Hs : Hid ((w.alloc (.cells #[.int .i64 0, .int .i64 0] 72)).heap.size = w.heap.size + 1) := hs
  clear b0 hA hl1 hl2 hs hq h1
  go_enter Tryz.func55, Tryz.ntmps55
  go_wp2_with fail
  refine qt.mono ?_
  rintro e9 w2 ⟨rfl, a1, a2⟩
  have hb : w2.heap[w.heap.size]? = some (.cells #[.int .i64 0, .int .i64 0] 72 (0, 0)) := (a2.block _ (by have := Hs.out; omega) (by simpa using Hl.out)).trans HP.out
  have HA2 : Hid (Ar w2 ab ag c (x.put 1 (q + n)) sw (zer ws q n)) := a1
  have HT2 : Hid (Touch [ab, ag] w w2) := (Touch.of_below HB0.out _).trans a2
  have k0 : w2.cell? ⟨w.heap.size, 0, none⟩ = some (.int .i64 0) := cell_of_row _ _ 0 _ _ _ hb
  have k1 : w2.cell? ⟨w.heap.size, 1, none⟩ = some (.int .i64 0) := cell_of_row _ _ 1 _ _ _ hb
  have z0 : w2.frozen? ⟨w.heap.size, 0, none⟩ = false := by unfold World.frozen?; simp only [hb]; simp
  have z1 : w2.frozen? ⟨w.heap.size, 1, none⟩ = false := by unfold World.frozen?; simp only [hb]; simp
  clear qt a1 a2 hb
  have kA : ((w2.setCell ⟨w.heap.size, 0, none⟩ (.int .i64 q)).setCell ⟨w.heap.size, 1, none⟩ (.int .i64 n)).cell? ⟨w.heap.size, 0, none⟩ = some (.int .i64 q) := by
    rw [World.cell?_setCell_other _ _ _ _ (by simp)]
    exact World.cell?_setCell_same _ _ _ k0
  have kB : ((w2.setCell ⟨w.heap.size, 0, none⟩ (.int .i64 q)).setCell ⟨w.heap.size, 1, none⟩ (.int .i64 n)).cell? ⟨w.heap.size, 1, none⟩ = some (.int .i64 n) := by
    refine World.cell?_setCell_same _ _ _ (u := .int .i64 0) ?_
    rw [World.cell?_setCell_other _ _ _ _ (by simp)]
    exact k1
  have T3 : Touch [w.heap.size] w2 ((w2.setCell ⟨w.heap.size, 0, none⟩ (.int .i64 q)).setCell ⟨w.heap.size, 1, none⟩ (.int .i64 n)) := (Touch.setCell _ _ _ (by simp)).trans (Touch.setCell _ _ _ (by simp))
  have HA3 : Hid (Ar ((w2.setCell ⟨w.heap.size, 0, none⟩ (.int .i64 q)).setCell ⟨w.heap.size, 1, none⟩ (.int .i64 n)) ab ag c (x.put 1 (q + n)) sw (zer ws q n)) := HA2.out.touch T3 (by simpa using fun e => Hl.out.1 e.symm) (by simpa using fun e => Hl.out.2 e.symm)
  have HT3 : Hid (Touch [ab, ag] w ((w2.setCell ⟨w.heap.size, 0, none⟩ (.int .i64 q)).setCell ⟨w.heap.size, 1, none⟩ (.int .i64 n))) := HT2.out.then T3 (fun y hy => .inr (by simp at hy; omega))
  clear T3 HA2 HT2
  go_wp2
  refine bodyPost_ret (by simp [results, Tryz.results55, go_sem, kA, kB]; try rfl) rfl ?_
  exact ⟨rfl, HA3.out, HT3.out⟩

theorem bfill_no {w : World} {b : Nat} {B : Bfs} (h : Bf w b B) (t : Nat) (ht : t < 8) (hz : ¬ 0 < B.ws t) (a : Value) (u : FrameMode) :
    CallsD Tryz.prog 50 #[.pointer (some ⟨b, 2 + t * 2, none⟩), a] u w fun e u' w' => u' = u ∧ (e = .returned (.tuple #[]) ∧ w = w') := by
  have kw := h.cell (2 + t * 2 + 1) (by omega) _ (bf_ws B t)
  generalize B.ws t = W at kw hz
  clear h
  go_enter_d Tryz.func50, Tryz.ntmps50
  go_wp2
  go_end0
  exact ⟨rfl, rfl⟩

set_option maxHeartbeats 1000000 in
theorem bfill_yes {w : World} {b ab ag : Nat} {B : Bfs} {c : Cfg} {x : Tps} {sw : Bool} {ws : Nat → Int} (h : Bf w b B) (t : Nat) (ht : t < 8) (hz : 0 < B.ws t) (hz2 : B.ws t ≤ 1000000) (hA : Ar w ab ag c x sw ws) (q : Nat) (hq : B.at_ t = q) (h0 : 0 < q) (h1 : (q : Int) < c.words) (u : FrameMode) :
    CallsD Tryz.prog 50 #[.pointer (some ⟨b, 2 + t * 2, none⟩), .pointer (some ⟨ab, 0, none⟩)] u w fun e u' w' => u' = u ∧ (e = .returned (.tuple #[]) ∧ Ar w' ab ag c x sw (upd ws q (tg 3 (B.ws t))) ∧ Touch [ag] w w' ∧ w'.heap.size = w.heap.size) := by
  have ka := h.cell (2 + t * 2) (by omega) _ (bf_at B t)
  have kw := h.cell (2 + t * 2 + 1) (by omega) _ (bf_ws B t)
  rw [hq] at ka
  generalize B.ws t = W at kw hz hz2 ⊢
  have hf := filler_any W w.drew
  have hwd : Wd (tg 3 W) := by unfold tg; rw [if_neg (by omega)]; constructor <;> omega
  have qs : Hid (Calls Tryz.prog 87 #[.pointer (some ⟨ab, 0, none⟩), .int .i64 q, .int .u64 (tg 3 W)] w.drew fun e w' => e = .returned (.bool true) ∧ Ar w' ab ag c x sw (upd ws q (tg 3 W)) ∧ Touch [ag] w.drew w' ∧ w'.heap.size = w.drew.heap.size) := setWord_yes ab ag c x sw ws q (tg 3 W) hwd h0 h1 w.drew (hA.below (below_drewN (Below.refl _ _) 1))
  have HTd : Hid (Touch [ag] w w.drew) := Touch.drewN [ag] w 1
  generalize tg 3 W = F at hf qs ⊢
  clear h hA hwd hq h1
  go_enter_d Tryz.func50, Tryz.ntmps50
  go_upto_region 1 with fail
  refine Kg.quiet_tail 10 Kg.mixed (by kernel_rfl) ?_
  simp only [List.take_succ_cons, List.take_zero, List.drop_succ_cons, List.drop_zero]
  repeat (go_big_quiet_step (exact hf _))
  refine wpQuiet_nil ?_
  go_wp2_with fail
  refine qs.out.mono ?_
  rintro e9 w2 ⟨rfl, a1, a2, a3⟩
  have HX : Hid (Ar w2 ab ag c x sw (upd ws q F) ∧ Touch [ag] w w2 ∧ w2.heap.size = w.heap.size) := ⟨a1, HTd.out.trans a2, a3⟩
  clear a1 a2 a3 qs
  go_wp2
  go_end0
  exact ⟨rfl, HX.out⟩

/-- So many words of a new object have been written from q on. -/
def lyw (ws : Nat → Int) (q : Nat) (m s : Int) (k : Nat) : Nat → Int := fun j => if q ≤ j ∧ j < q + k then obw m s (j - q) else ws j

theorem lyw_zero (ws : Nat → Int) (q : Nat) (m s : Int) : lyw ws q m s 0 = ws := by
  funext j; unfold lyw; rw [if_neg (by omega)]

theorem lyw_succ (ws : Nat → Int) (q : Nat) (m s : Int) (k : Nat) : upd (lyw ws q m s k) (q + k) (obw m s k) = lyw ws q m s (k + 1) := by
  funext j
  unfold upd lyw
  by_cases h : j = q + k
  · rw [if_pos h, if_pos (by omega), h, show q + k - q = k by omega]
  · rw [if_neg h]
    by_cases h1 : q ≤ j ∧ j < q + k
    · rw [if_pos h1, if_pos (by omega)]
    · rw [if_neg h1, if_neg (by omega)]

theorem lyw_all (ws : Nat → Int) (q : Nat) (m s : Int) (n : Nat) (h2 : 2 ≤ n) : lyw ws q m s n = putw ws q n m s := by
  funext j
  unfold lyw putw upd zer obw
  by_cases h1 : j = q + 1
  · rw [if_pos (by omega), if_neg (by omega), if_pos (by omega), if_pos h1]
  · rw [if_neg h1]
    by_cases h0 : j = q
    · rw [if_pos (by omega), if_pos (by omega), if_pos h0]
    · rw [if_neg h0]
      by_cases h : q ≤ j ∧ j < q + n
      · rw [if_pos h, if_neg (by omega), if_neg (by omega), if_pos h]
      · rw [if_neg h, if_neg h]

theorem obw_wd {m s : Int} (hm : Wd m) (hs : Wd s) (j : Nat) : Wd (obw m s j) := by
  unfold obw
  split
  · exact hm
  · split
    · exact hs
    · exact ⟨by decide, by decide⟩

set_option maxHeartbeats 1000000 in
theorem blay_any {w : World} {b ab ag og : Nat} {B : Bfs} {c : Cfg} {x : Tps} {sw : Bool} {ws : Nat → Int} {m s : Int} (hm : Wd m) (hs : Wd s) (h : Bf w b B) (t : Nat) (ht : t < 8) (hA : Ar w ab ag c x sw ws) (n : Nat) (h2 : 2 ≤ n) (hr : w.rowIs og 44 n (fun j => .int .u64 (obw m s j))) (q : Nat) (hq : B.at_ t = q) (h0 : 1 ≤ q) (h1 : (q : Int) + n ≤ c.words) (hw : (n : Int) ≤ B.ws t) (hw2 : B.ws t ≤ 1000000) (hog : og ≠ ag) (hb : b ≠ ag) (hab : b ≠ ab) :
    Calls Tryz.prog 53 #[.pointer (some ⟨b, 2 + t * 2, none⟩), .pointer (some ⟨ab, 0, none⟩), .slice (some ⟨og, 0, none⟩) n n] w fun e w' => e = .returned (.int .i64 q) ∧ Ar w' ab ag c x sw (putw ws q n m s) ∧ Bf w' b (B.drop t n) ∧ Touch [b, ag] w w' := by
  have ka := h.cell (2 + t * 2) (by omega) _ (bf_at B t)
  rw [hq] at ka
  have wo := hA.words
  have HBf : Hid (Bf w b B) := h
  have HA0 : Hid (Ar w ab ag c x sw (lyw ws q m s 0)) := by rw [lyw_zero]; exact hA
  have Hr : Hid (w.rowIs og 44 n (fun j => .int .u64 (obw m s j))) := hr
  have Hne : Hid (og ≠ ag ∧ b ≠ ag ∧ b ≠ ab) := ⟨hog, hb, hab⟩
  have Hq : Hid (B.at_ t = q) := hq
  have Hwd : Hid (∀ j, Wd (obw m s j)) := fun j => obw_wd hm hs j
  have Hw : Hid ((n : Int) ≤ B.ws t ∧ B.ws t ≤ 1000000) := ⟨hw, hw2⟩
  have Hall : Hid (lyw ws q m s n = putw ws q n m s) := lyw_all ws q m s n h2
  have HT0 : Hid (Touch [ag] w w) := Touch.refl _ _
  clear h hA hr hog hb hab hq hm hs hw hw2
  go_enter Tryz.func53, Tryz.ntmps53
  go_upto_region 3 with fail
  clear ka
  go_loopw [16] (fun i wr => ∃ (k : Nat), i = .int .i64 k ∧ k ≤ n ∧ Hid (Ar wr ab ag c x sw (lyw ws q m s k)) ∧ Hid (Touch [ag] w wr)) (fun i _ => n - (intOf i).toNat)
  case atStart => exact ⟨0, rfl, by omega, HA0, HT0⟩
  case round =>
    obtain ⟨k, rfl, hk, HA, HT⟩ := hrel
    clear HA0 HT0
    by_cases hlt : k < n
    · have hli : (k : Int) < n := by omega
      have kc : wr.cell? ⟨og, k, none⟩ = some (.int .u64 (obw m s k)) := by
        rw [World.cell?_of_block (w := w) (HT.out.block _ Hr.out.lt (by simpa using Hne.out.1))]
        exact Hr.out.cell hlt
      have qs := setWord_yes ab ag c x sw _ (q + k) (obw m s k) (Hwd.out k) (by omega) (by omega) wr HA.out
      rw [lyw_succ] at qs
      have e9 : ((q + k : Nat) : Int) = (q : Int) + k := by omega
      rw [e9] at qs
      generalize obw m s k = V at kc qs
      go_wp2_with fail
      refine qs.mono ?_
      rintro e9 w2 ⟨rfl, a1, a2, a3⟩
      have HA2 : Hid (Ar w2 ab ag c x sw (lyw ws q m s (k + 1))) := a1
      have HT2 : Hid (Touch [ag] w w2) := HT.out.trans a2
      clear qs a1 a2 a3 kc HA HT e9
      go_wp2
      go_roundw
      case rel => exact ⟨k + 1, by go_num, by omega, HA2, HT2⟩
      case measure => simp [intOf]; omega
    · obtain rfl : k = n := by omega
      have hli : ¬ (k : Int) < k := by omega
      have q9 := bdrop_any (HBf.out.touch HT.out (by simpa using Hne.out.2.1)) t ht k (by rw [Hq.out]; omega) (by rw [Hq.out]; omega) (by omega) Hw.out.1 Hw.out.2
      go_wp2_with fail
      refine q9.mono ?_
      rintro e9 w2 ⟨rfl, a1, a2, a3⟩
      have HX : Hid (Ar w2 ab ag c x sw (putw ws q k m s) ∧ Bf w2 b (B.drop t k) ∧ Touch [b, ag] w w2) := by
        refine ⟨?_, a1, ((Touch.refl [b, ag] w).then HT.out (fun x hx => by simp at hx; simp [hx])).then a2 (fun x hx => by simp at hx; simp [hx])⟩
        rw [← Hall.out]
        exact HA.out.touch a2 (by simpa using fun e => Hne.out.2.2 e.symm) (by simpa using fun e => Hne.out.2.1 e.symm)
      clear q9 a1 a2 a3
      go_wp2
      go_returns
      exact ⟨rfl, HX.out⟩

end Go.Proofs.YtpiemfchjlihfaaGreatDoor
