/-
  Store, by things.
-/
import Derived.Test.YtfihjmoaibmllaaDoorY14
set_option linter.unusedVariables false
set_option maxRecDepth 20000
namespace Go.Proofs.YtfihjmoaibmllaaDoor
open Go.RowKit Go.Shelf

section
variable {w1 w w' : World} {n1 sb b g mb n : Nat} {lv : Value} {c : Cfg} {x : Tps} {sw : Bool} {ws : Nat → Int} {th : List Tng} {l : List Int} {S : Int → Bool}

set_option maxHeartbeats 2000000 in
theorem stands_yes (H : Rm w1 n1 w sb b g mb lv c x sw ws th l n S) {T : Tng} (hT : T ∈ th) : Calls Tryd.prog 69 #[.pointer (some ⟨sb, 0, none⟩), .int .i64 T.at_] w fun e w' => e = .returned (.bool true) ∧ Below w.heap.size w w' := by
  have k0 : w.cell? ⟨sb, 0, none⟩ = some (.pointer (some ⟨b, 0, none⟩)) := H.rs.cell 0
  have hh := H.bq.ax.head hT
  clear H hT
  go_enter Tryd.func69, Tryd.ntmps69
  go_wp2_with fail
  refine hh.mono ?_
  rintro e w2 ⟨rfl, l2⟩
  clear hh k0
  have l3 := Below.alloc l2 l2.size (.cells (hcells T.s T.k T.p T.r T.a T.t T.h) 48)
  go_wp2
  go_ret
  exact ⟨rfl, l3⟩

set_option maxHeartbeats 2000000 in
theorem fault_no (H : Rm w1 n1 w sb b g mb lv c x sw ws th l n S) {T : Tng} (hT : T ∈ th) (f : Nat) (hf : f < T.ps.length) (z : Int) (hz : z = 0 ∨ ∃ U, U ∈ th ∧ U.at_ = z) : Calls Tryd.prog 48 #[.pointer (some ⟨sb, 0, none⟩), .int .i64 T.at_, .int .i64 f, .int .i64 z] w fun e w' => e = .returned (.int .i64 0) ∧ Below w.heap.size w w' := by
  have k0 : w.cell? ⟨sb, 0, none⟩ = some (.pointer (some ⟨b, 0, none⟩)) := H.rs.cell 0
  have hh := H.bq.ax.head hT
  have HR : Hid (Rm w1 n1 w sb b g mb lv c x sw ws th l n S) := H
  have hpn := H.bq.ax.hl.psn T hT
  have hfI : ¬ (f : Int) < 0 := by omega
  have hfp : ¬ T.p ≤ (f : Int) := by omega
  have gfp : decide (T.p ≤ (f : Int)) = false := decide_eq_false hfp
  clear H hT hpn
  go_enter Tryd.func48, Tryd.ntmps48
  go_wp2_with fail
  refine hh.mono ?_
  rintro e w2 ⟨rfl, l2⟩
  clear hh k0
  go_upto_region 2 with fail
  have l3 := Below.alloc l2 l2.size (.cells (hcells T.s T.k T.p T.r T.a T.t T.h) 48)
  have hy : (w2.alloc (.cells (hcells T.s T.k T.p T.r T.a T.t T.h) 48)).cell? ⟨w2.heap.size, 2, none⟩ = some (.int .i64 T.p) := cell_of_row _ _ 2 _ _ _ (heap_alloc_new w2 (.cells (hcells T.s T.k T.p T.r T.a T.t T.h) 48 (0, 0)))
  generalize w2.alloc (.cells (hcells T.s T.k T.p T.r T.a T.t T.h) 48) = w3 at *
  generalize w2.heap.size = R at *
  clear l2
  rcases hz with rfl | ⟨U, hU, rfl⟩
  · go_wp2
    go_ret
    exact ⟨rfl, l3⟩
  · have hst := stands_yes (HR.out.below l3) hU
    have hpos := HR.out.bq.ax.pos hU
    have hne : (U.at_ == 0) = false := by simp; omega
    have hne2 : (U.at_ != 0) = true := by simp; omega
    clear hU
    go_wp2_with fail
    refine hst.mono ?_
    rintro e w4 ⟨rfl, l4⟩
    have l5 := l3.trans (l4.mono l3.size)
    clear hst l4 l3 hy
    go_wp2
    go_ret
    exact ⟨rfl, l5⟩

/-- What Store does to the list. -/
def stl (c : Cfg) (sw : Bool) (l : List Int) (a z : Int) : Bool := decide (spc c a = 4) && (yg c sw z && !decide (a ∈ l))

set_option maxHeartbeats 4000000 in
/-- A pointer to a thing, or none, is stored into a thing. -/
theorem store_any (H : Rm w1 n1 w sb b g mb lv c x sw ws th l n (fun a => decide (a ∈ l))) (i : Nat) (T : Tng) (hTi : th[i]? = some T) (f : Nat) (hf : f < T.ps.length) (z : Int) (hz : z = 0 ∨ ∃ U, U ∈ th ∧ U.at_ = z) (hl : l.length ≤ 100000) (hn : n ≤ 100000) :
    Calls Tryd.prog 20 #[.pointer (some ⟨sb, 0, none⟩), .int .i64 T.at_, .int .i64 f, .int .i64 z] w fun e w' => e = .returned (.int .i64 0) ∧ ∃ lv' ws',
      (stl c sw l T.at_ z = false → Rm w1 n1 w' sb b g mb lv' c x sw ws' (th.set i { T with ps := T.ps.set f z }) l n (fun a => decide (a ∈ l))) ∧
      (stl c sw l T.at_ z = true → Rm w1 n1 w' sb b g mb lv' c x sw ws' (th.set i { T with ps := T.ps.set f z, h := true }) (l ++ [T.at_]) (n + 1) (fun a => decide (a ∈ l ++ [T.at_]))) := by
  have hT := List.mem_of_getElem? hTi
  have hfa := fault_no H hT f hf z hz
  have HR : Hid (Rm w1 n1 w sb b g mb lv c x sw ws th l n (fun a => decide (a ∈ l))) := H
  have HT : Hid (th[i]? = some T) := hTi
  have hpos := H.bq.ax.pos hT
  have Ha : Hid (InI T.at_) := by show InI T.at_; unfold InI; omega
  have Hzw : Hid (0 ≤ z ∧ z < c.words) := by
    rcases hz with rfl | ⟨U, hU, rfl⟩
    · show _ ∧ _; omega
    · have := H.bq.ax.pos hU; show _ ∧ _; omega
  have Hf : Hid (f < T.ps.length) := hf
  clear H hT hTi hpos hz hf
  go_enter Tryd.func20, Tryd.ntmps20
  go_wp2_with fail
  refine hfa.mono ?_
  rintro e w2 ⟨rfl, l2⟩
  have HR2 : Hid (Rm w1 n1 w2 sb b g mb lv c x sw ws th l n (fun a => decide (a ∈ l))) := HR.out.below l2
  have k0 : w2.cell? ⟨sb, 0, none⟩ = some (.pointer (some ⟨b, 0, none⟩)) := HR2.out.rs.cell 0
  have hsp := HR2.out.bq.ax.setPtr i T HT.out f z Hf.out Hzw.out.1 Hzw.out.2
  clear hfa l2 HR
  go_wp2_with fail
  refine hsp.mono ?_
  rintro e w3 ⟨rfl, t3, ws3, A3, H3⟩
  have HR3 : Hid (Rm w1 n1 w3 sb b g mb lv c x sw ws3 (th.set i { T with ps := T.ps.set f z }) l n (fun a => decide (a ∈ l))) := HR2.out.next t3.one A3 H3
  have HT3 : Hid ((th.set i { T with ps := T.ps.set f z })[i]? = some { T with ps := T.ps.set f z }) := by
    show _ = _
    rw [List.getElem?_set, if_pos rfl, if_pos (List.getElem?_eq_some_iff.1 HT.out).1]
  clear hsp k0 t3 A3 H3 HR2
  have ht := sTenured_any HR3.out.rs HR3.out.bq.ax.ar T.at_
  by_cases h4 : spc c T.at_ = 4
  · rw [decide_eq_true h4] at ht
    go_wp2_with fail
    refine ht.mono ?_
    rintro e w4 ⟨rfl, l4⟩
    have HR4 : Hid (Rm w1 n1 w4 sb b g mb lv c x sw ws3 (th.set i { T with ps := T.ps.set f z }) l n (fun a => decide (a ∈ l))) := HR3.out.below l4
    have k0 : w4.cell? ⟨sb, 0, none⟩ = some (.pointer (some ⟨b, 0, none⟩)) := HR4.out.rs.cell 0
    have hyo : Calls Tryd.prog 50 #[.pointer (some ⟨b, 0, none⟩), .int .i64 z] w4 fun e w' => e = .returned (.bool (yg c sw z)) ∧ Below w4.heap.size w4 w' := young_any b g c x sw ws3 z w4 HR4.out.bq.ax.ar
    clear ht l4 HR3
    cases hy : yg c sw z
    · rw [hy] at hyo
      have HE : Hid (stl c sw l T.at_ z = false) := by show _ = _; unfold stl; rw [hy]; simp
      clear hy h4
      go_wp2_with fail
      refine hyo.mono ?_
      rintro e w5 ⟨rfl, l5⟩
      have HR5 : Hid (Rm w1 n1 w5 sb b g mb lv c x sw ws3 (th.set i { T with ps := T.ps.set f z }) l n (fun a => decide (a ∈ l))) := HR4.out.below l5
      clear hyo l5 HR4 k0
      go_wp2
      go_ret
      exact ⟨rfl, lv, ws3, fun _ => HR5.out, fun e => by rw [HE.out] at e; simp at e⟩
    · rw [hy] at hyo
      have Hy : Hid (yg c sw z = true) := hy
      have H4 : Hid (spc c T.at_ = 4) := h4
      clear hy h4
      go_wp2_with fail
      refine hyo.mono ?_
      rintro e w5 ⟨rfl, l5⟩
      have HR5 : Hid (Rm w1 n1 w5 sb b g mb lv c x sw ws3 (th.set i { T with ps := T.ps.set f z }) l n (fun a => decide (a ∈ l))) := HR4.out.below l5
      have hh := sHas_any HR5.out.rs T.at_ Ha.out
      clear hyo l5 HR4 k0
      by_cases hm : T.at_ ∈ l
      · rw [decide_eq_true hm] at hh
        have HE : Hid (stl c sw l T.at_ z = false) := by show _ = _; unfold stl; simp [hm]
        clear hm
        go_wp2_with fail
        refine hh.mono ?_
        rintro e w6 ⟨rfl, l6⟩
        have HR6 : Hid (Rm w1 n1 w6 sb b g mb lv c x sw ws3 (th.set i { T with ps := T.ps.set f z }) l n (fun a => decide (a ∈ l))) := HR5.out.below l6
        clear hh l6 HR5
        go_wp2
        go_ret
        exact ⟨rfl, lv, ws3, fun _ => HR6.out, fun e => by rw [HE.out] at e; simp at e⟩
      · rw [decide_eq_false hm] at hh
        have HE : Hid (stl c sw l T.at_ z = true) := by show _ = _; unfold stl; simp [hm, Hy.out, H4.out]
        clear hm
        go_wp2_with fail
        refine hh.mono ?_
        rintro e w6 ⟨rfl, l6⟩
        have HR6 : Hid (Rm w1 n1 w6 sb b g mb lv c x sw ws3 (th.set i { T with ps := T.ps.set f z }) l n (fun a => decide (a ∈ l))) := HR5.out.below l6
        clear hh l6 HR5
        have had := sAdd_any HR6.out T.at_ Ha.out (by omega) (by omega)
        go_wp2_with fail
        refine had.mono ?_
        rintro e w7 ⟨rfl, lv7, R7, -, -⟩
        have R7' := R7.congr (S' := fun a => decide (a ∈ l ++ [T.at_])) (fun y _ => by by_cases e : y = T.at_ <;> simp [e])
        have hmk := sMark_any R7' i _ HT3.out
        have Hset : Hid ((th.set i { T with ps := T.ps.set f z }).set i { T with ps := T.ps.set f z, h := true } = th.set i { T with ps := T.ps.set f z, h := true }) := List.set_set _
        have hd : decide (T.at_ ∈ l ++ [T.at_]) = true := by simp
        simp only [hd] at hmk
        clear had R7 R7' HR6 hd
        go_wp2_with fail
        refine hmk.mono ?_
        rintro e w8 ⟨rfl, -, ws8, R8⟩
        have HR8 : Hid (Rm w1 n1 w8 sb b g mb lv7 c x sw ws8 (th.set i { T with ps := T.ps.set f z, h := true }) (l ++ [T.at_]) (n + 1) (fun a => decide (a ∈ l ++ [T.at_]))) := by
          have := R8
          rw [Hset.out] at this
          exact this
        clear hmk R8
        go_wp2
        go_ret
        exact ⟨rfl, lv7, ws8, fun e => by rw [HE.out] at e; simp at e, fun _ => HR8.out⟩
  · rw [decide_eq_false h4] at ht
    have HE : Hid (stl c sw l T.at_ z = false) := by show _ = _; unfold stl; simp [h4]
    go_wp2_with fail
    refine ht.mono ?_
    rintro e w4 ⟨rfl, l4⟩
    have HR4 : Hid (Rm w1 n1 w4 sb b g mb lv c x sw ws3 (th.set i { T with ps := T.ps.set f z }) l n (fun a => decide (a ∈ l))) := HR3.out.below l4
    clear ht l4 HR3 h4
    go_wp2
    go_ret
    exact ⟨rfl, lv, ws3, fun _ => HR4.out, fun e => by rw [HE.out] at e; simp at e⟩
end

end Go.Proofs.YtfihjmoaibmllaaDoor
