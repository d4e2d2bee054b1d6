import Derived.Test.YtfihjmoaibmllaaDoorY23
import Derived.Test.YtfihjmoaibmllaaDoorPYd
import Derived.Test.YtfihjmoaibmllaaDoorY18
/-
  Store where it may not be: no object stands there, or it has no such field.
-/
set_option linter.unusedVariables false
set_option maxRecDepth 20000
namespace Go.Proofs.YtfihjmoaibmllaaDoor
open Go.RowKit Go.Shelf

set_option maxHeartbeats 2000000 in
theorem object_none (b : Nat) (a : Int) (w : World)
    (hsp : ∀ w1, Below w.heap.size w w1 → Calls Tryd.prog 70 #[.pointer (some ⟨b, 0, none⟩), .int .i64 a] w1 fun e w' => e = .returned (.int .i64 0) ∧ Below w1.heap.size w1 w') :
    Calls Tryd.prog 55 #[.pointer (some ⟨b, 0, none⟩), .int .i64 a] w fun e w' => e = .returned (.tuple #[ov 0 0 0 0 0 0 false (.slice none 0 0), .bool false]) ∧ Below w.heap.size w w' := by
  have b0 : Below w.heap.size w (w.alloc (.cells ozero 102)) := Below.alloc (Below.refl _ _) (Nat.le_refl _) _
  have o0 := Oc.new w ozero
  have h1 := hsp _ b0
  clear hsp
  go_enter Tryd.func55, Tryd.ntmps55
  go_wp2_with fail
  refine h1.mono ?_
  rintro e w1 ⟨rfl, l1⟩
  have o1 := o0.below l1
  have b1 := b0.trans (l1.mono b0.size)
  clear h1 b0 l1 o0
  go_wp2_with (refine wpList_store_row rfl 102 _ _ rfl w.heap.size ozero rfl rfl 102 ozero o1.at_ oinfo rfl (by kernel_rfl) ?_)
  have o4 : Oc (w1.setRow w.heap.size ozero) w.heap.size ozero := ⟨setRow_heap _ _ _ _ _ _ o1.at_⟩
  have b4 := below_setRow b1 (Nat.le_refl _) ozero
  generalize w1.setRow w.heap.size ozero = w4 at o4 b4 ⊢
  clear o1 b1
  go_wp2
  refine bodyPost_ret (results_cell2 Tryd.results55 rfl o4.load) rfl ?_
  exact ⟨rfl, b4⟩

section
variable {w1 w w' : World} {n1 sb b g mb n : Nat} {lv : Value} {c : Cfg} {x : Tps} {sw : Bool} {ws : Nat → Int} {th : List Tng} {l : List Int} {S : Int → Bool}

theorem Ax.head0 (H : Ax w b g c x sw ws th) : Calls Tryd.prog 27 #[.pointer (some ⟨b, 0, none⟩), .int .i64 0] w fun e w' => e = .returned (.tuple #[hv 0 0 0 0 0 0 false, .bool false]) ∧ Below w.heap.size w w' :=
  head_core false b 0 _ _ _ _ _ _ _ _ _ _ w (fun w2 l => object_none b 0 w2 (fun w3 l3 => by
    have h := space_any b g c x sw ws 0 w3 ((H.ar.below l).below l3)
    rw [show spc c 0 = 0 from by unfold spc; rw [if_pos (by omega)]] at h
    exact h))

/-- No object stands there. -/
theorem fault_out (H : Rm w1 n1 w sb b g mb lv c x sw ws th l n S) (f z : Int) : Calls Tryd.prog 48 #[.pointer (some ⟨sb, 0, none⟩), .int .i64 0, .int .i64 f, .int .i64 z] w fun e w' => e = .returned (.int .i64 60) ∧ Below w.heap.size w w' := by
  have k0 : w.cell? ⟨sb, 0, none⟩ = some (.pointer (some ⟨b, 0, none⟩)) := H.rs.cell 0
  have hh := H.bq.ax.head0
  clear H
  go_enter Tryd.func48, Tryd.ntmps48
  go_wp2_with fail
  refine hh.mono ?_
  rintro e w2 ⟨rfl, l2⟩
  clear hh k0
  go_upto_region 2 with fail
  have l3 := Below.alloc l2 l2.size (.cells (hcells 0 0 0 0 0 0 false) 48)
  generalize w2.alloc (.cells (hcells 0 0 0 0 0 0 false) 48) = w3 at *
  go_wp2
  go_ret
  exact ⟨rfl, l3⟩

/-- It has no such field. -/
theorem fault_field (H : Rm w1 n1 w sb b g mb lv c x sw ws th l n S) {T : Tng} (hT : T ∈ th) (f : Int) (hf : ¬ (0 ≤ f ∧ f < T.ps.length)) (z : Int) : Calls Tryd.prog 48 #[.pointer (some ⟨sb, 0, none⟩), .int .i64 T.at_, .int .i64 f, .int .i64 z] w fun e w' => e = .returned (.int .i64 61) ∧ Below w.heap.size w w' := by
  have k0 : w.cell? ⟨sb, 0, none⟩ = some (.pointer (some ⟨b, 0, none⟩)) := H.rs.cell 0
  have hh := H.bq.ax.head hT
  have hpn := H.bq.ax.hl.psn T hT
  clear H hT
  go_enter Tryd.func48, Tryd.ntmps48
  go_wp2_with fail
  refine hh.mono ?_
  rintro e w2 ⟨rfl, l2⟩
  clear hh k0
  go_upto_region 2 with fail
  have l3 := Below.alloc l2 l2.size (.cells (hcells T.s T.k T.p T.r T.a T.t T.h) 48)
  have hy : (w2.alloc (.cells (hcells T.s T.k T.p T.r T.a T.t T.h) 48)).cell? ⟨w2.heap.size, 2, none⟩ = some (.int .i64 T.p) := cell_of_row _ _ 2 _ _ _ (heap_alloc_new w2 (.cells (hcells T.s T.k T.p T.r T.a T.t T.h) 48 (0, 0)))
  generalize w2.alloc (.cells (hcells T.s T.k T.p T.r T.a T.t T.h) 48) = w3 at *
  generalize w2.heap.size = R at *
  clear l2
  by_cases hf0 : f < 0
  · have gf0 : decide (f < 0) = true := decide_eq_true hf0
    clear hf hpn
    go_wp2
    go_ret
    exact ⟨rfl, l3⟩
  · have gf0 : decide (f < 0) = false := decide_eq_false hf0
    have hfp : T.p ≤ f := by omega
    have gfp : decide (T.p ≤ f) = true := decide_eq_true hfp
    clear hf hpn
    go_wp2
    go_ret
    exact ⟨rfl, l3⟩

set_option maxHeartbeats 2000000 in
/-- Store tells the fault. -/
theorem store_bad (a f z e0 : Int) (he : e0 ≠ 0) (hfa : Calls Tryd.prog 48 #[.pointer (some ⟨sb, 0, none⟩), .int .i64 a, .int .i64 f, .int .i64 z] w fun e w' => e = .returned (.int .i64 e0) ∧ Below w.heap.size w w') :
    Calls Tryd.prog 20 #[.pointer (some ⟨sb, 0, none⟩), .int .i64 a, .int .i64 f, .int .i64 z] w fun e w' => e = .returned (.int .i64 e0) ∧ Below w.heap.size w w' := by
  have he1 : (e0 == 0) = false := by simpa using he
  have he2 : (e0 != 0) = true := by simpa using he
  go_enter Tryd.func20, Tryd.ntmps20
  go_wp2_with fail
  refine hfa.mono ?_
  rintro e w2 ⟨rfl, l2⟩
  clear hfa
  go_wp2
  go_ret
  exact ⟨rfl, l2⟩
set_option maxHeartbeats 4000000 in
/-- Store, and what it touches. -/
theorem store_full (H : Rm w1 n1 w sb b g mb lv c x sw ws th l n (fun a => decide (a ∈ l))) (i : Nat) (T : Tng) (hTi : th[i]? = some T) (f : Nat) (hf : f < T.ps.length) (z : Int) (hz : z = 0 ∨ ∃ U, U ∈ th ∧ U.at_ = z) (hl : l.length ≤ 100000) (hn : n ≤ 100000) :
    Calls Tryd.prog 20 #[.pointer (some ⟨sb, 0, none⟩), .int .i64 T.at_, .int .i64 f, .int .i64 z] w fun e w' => e = .returned (.int .i64 0) ∧ Touch (sb :: mb :: b :: g :: lv.ownBlock.toList) w w' ∧ ∃ lv' ws', (lv'.ownBlock = lv.ownBlock ∨ ∃ y, lv'.ownBlock = some y ∧ w.heap.size ≤ y) ∧
      (stl c sw l T.at_ z = false → Rm w1 n1 w' sb b g mb lv' c x sw ws' (th.set i { T with ps := T.ps.set f z }) l n (fun a => decide (a ∈ l))) ∧
      (stl c sw l T.at_ z = true → Rm w1 n1 w' sb b g mb lv' c x sw ws' (th.set i { T with ps := T.ps.set f z, h := true }) (l ++ [T.at_]) (n + 1) (fun a => decide (a ∈ l ++ [T.at_]))) := by
  have hT := List.mem_of_getElem? hTi
  have hfa := fault_no H hT f hf z hz
  have HR : Hid (Rm w1 n1 w sb b g mb lv c x sw ws th l n (fun a => decide (a ∈ l))) := H
  have HT : Hid (th[i]? = some T) := hTi
  have hpos := H.bq.ax.pos hT
  have Ha : Hid (InI T.at_) := by show InI T.at_; unfold InI; omega
  have Hzw : Hid (0 ≤ z ∧ z < c.words) := by
    rcases hz with rfl | ⟨U, hU, rfl⟩
    · show _ ∧ _; omega
    · have := H.bq.ax.pos hU; show _ ∧ _; omega
  have Hf : Hid (f < T.ps.length) := hf
  clear H hT hTi hpos hz hf
  go_enter Tryd.func20, Tryd.ntmps20
  go_wp2_with fail
  refine hfa.mono ?_
  rintro e w2 ⟨rfl, l2⟩
  have HR2 : Hid (Rm w1 n1 w2 sb b g mb lv c x sw ws th l n (fun a => decide (a ∈ l))) := HR.out.below l2
  have k0 : w2.cell? ⟨sb, 0, none⟩ = some (.pointer (some ⟨b, 0, none⟩)) := HR2.out.rs.cell 0
  have hsp := HR2.out.bq.ax.setPtr i T HT.out f z Hf.out Hzw.out.1 Hzw.out.2
  have Ht2 : Hid (Touch (sb :: mb :: b :: g :: lv.ownBlock.toList) w w2) := Touch.of_below l2 _
  clear hfa l2 HR
  go_wp2_with fail
  refine hsp.mono ?_
  rintro e w3 ⟨rfl, t3, ws3, A3, H3⟩
  have HR3 : Hid (Rm w1 n1 w3 sb b g mb lv c x sw ws3 (th.set i { T with ps := T.ps.set f z }) l n (fun a => decide (a ∈ l))) := HR2.out.next t3.one A3 H3
  have HT3 : Hid ((th.set i { T with ps := T.ps.set f z })[i]? = some { T with ps := T.ps.set f z }) := by
    show _ = _
    rw [List.getElem?_set, if_pos rfl, if_pos (List.getElem?_eq_some_iff.1 HT.out).1]
  have Ht3 : Hid (Touch (sb :: mb :: b :: g :: lv.ownBlock.toList) w w3) := Ht2.out.then t3 (fun y hy => by simp only [List.mem_cons, List.not_mem_nil, or_false] at hy; subst hy; simp)
  clear hsp k0 t3 A3 H3 HR2 Ht2
  have ht := sTenured_any HR3.out.rs HR3.out.bq.ax.ar T.at_
  by_cases h4 : spc c T.at_ = 4
  · rw [decide_eq_true h4] at ht
    go_wp2_with fail
    refine ht.mono ?_
    rintro e w4 ⟨rfl, l4⟩
    have HR4 : Hid (Rm w1 n1 w4 sb b g mb lv c x sw ws3 (th.set i { T with ps := T.ps.set f z }) l n (fun a => decide (a ∈ l))) := HR3.out.below l4
    have k0 : w4.cell? ⟨sb, 0, none⟩ = some (.pointer (some ⟨b, 0, none⟩)) := HR4.out.rs.cell 0
    have hyo : Calls Tryd.prog 50 #[.pointer (some ⟨b, 0, none⟩), .int .i64 z] w4 fun e w' => e = .returned (.bool (yg c sw z)) ∧ Below w4.heap.size w4 w' := young_any b g c x sw ws3 z w4 HR4.out.bq.ax.ar
    have Ht4 : Hid (Touch (sb :: mb :: b :: g :: lv.ownBlock.toList) w w4) := Ht3.out.trans (Touch.of_below l4 _)
    clear ht l4 HR3 Ht3
    cases hy : yg c sw z
    · rw [hy] at hyo
      have HE : Hid (stl c sw l T.at_ z = false) := by show _ = _; unfold stl; rw [hy]; simp
      clear hy h4
      go_wp2_with fail
      refine hyo.mono ?_
      rintro e w5 ⟨rfl, l5⟩
      have HR5 : Hid (Rm w1 n1 w5 sb b g mb lv c x sw ws3 (th.set i { T with ps := T.ps.set f z }) l n (fun a => decide (a ∈ l))) := HR4.out.below l5
      have Ht5 : Hid (Touch (sb :: mb :: b :: g :: lv.ownBlock.toList) w w5) := Ht4.out.trans (Touch.of_below l5 _)
      clear hyo l5 HR4 k0 Ht4
      go_wp2
      go_ret
      exact ⟨rfl, Ht5.out, lv, ws3, .inl rfl, fun _ => HR5.out, fun e => by rw [HE.out] at e; simp at e⟩
    · rw [hy] at hyo
      have Hy : Hid (yg c sw z = true) := hy
      have H4 : Hid (spc c T.at_ = 4) := h4
      clear hy h4
      go_wp2_with fail
      refine hyo.mono ?_
      rintro e w5 ⟨rfl, l5⟩
      have HR5 : Hid (Rm w1 n1 w5 sb b g mb lv c x sw ws3 (th.set i { T with ps := T.ps.set f z }) l n (fun a => decide (a ∈ l))) := HR4.out.below l5
      have hh := sHas_any HR5.out.rs T.at_ Ha.out
      have Ht5 : Hid (Touch (sb :: mb :: b :: g :: lv.ownBlock.toList) w w5) := Ht4.out.trans (Touch.of_below l5 _)
      clear hyo l5 HR4 k0 Ht4
      by_cases hm : T.at_ ∈ l
      · rw [decide_eq_true hm] at hh
        have HE : Hid (stl c sw l T.at_ z = false) := by show _ = _; unfold stl; simp [hm]
        clear hm
        go_wp2_with fail
        refine hh.mono ?_
        rintro e w6 ⟨rfl, l6⟩
        have HR6 : Hid (Rm w1 n1 w6 sb b g mb lv c x sw ws3 (th.set i { T with ps := T.ps.set f z }) l n (fun a => decide (a ∈ l))) := HR5.out.below l6
        have Ht6 : Hid (Touch (sb :: mb :: b :: g :: lv.ownBlock.toList) w w6) := Ht5.out.trans (Touch.of_below l6 _)
        clear hh l6 HR5 Ht5
        go_wp2
        go_ret
        exact ⟨rfl, Ht6.out, lv, ws3, .inl rfl, fun _ => HR6.out, fun e => by rw [HE.out] at e; simp at e⟩
      · rw [decide_eq_false hm] at hh
        have HE : Hid (stl c sw l T.at_ z = true) := by show _ = _; unfold stl; simp [hm, Hy.out, H4.out]
        clear hm
        go_wp2_with fail
        refine hh.mono ?_
        rintro e w6 ⟨rfl, l6⟩
        have HR6 : Hid (Rm w1 n1 w6 sb b g mb lv c x sw ws3 (th.set i { T with ps := T.ps.set f z }) l n (fun a => decide (a ∈ l))) := HR5.out.below l6
        have Ht6 : Hid (Touch (sb :: mb :: b :: g :: lv.ownBlock.toList) w w6) := Ht5.out.trans (Touch.of_below l6 _)
        clear hh l6 HR5 Ht5
        have had := sAdd_any HR6.out T.at_ Ha.out (by omega) (by omega)
        go_wp2_with fail
        refine had.mono ?_
        rintro e w7 ⟨rfl, lv7, R7, t7, o7⟩
        have Ht7 : Hid (Touch (sb :: mb :: b :: g :: lv.ownBlock.toList) w w7) := Ht6.out.then t7 (fun y hy => .inl (by simp only [List.mem_cons] at hy ⊢; rcases hy with h | h | h <;> simp [h]))
        have Ho7 : Hid (lv7.ownBlock = lv.ownBlock ∨ ∃ y, lv7.ownBlock = some y ∧ w.heap.size ≤ y) := by
          rcases o7 with h | ⟨y, h1, h2⟩
          · exact .inl h
          · exact .inr ⟨y, h1, Nat.le_trans Ht6.out.size h2⟩
        have R7' := R7.congr (S' := fun a => decide (a ∈ l ++ [T.at_])) (fun y _ => by by_cases e : y = T.at_ <;> simp [e])
        have hmk := sMark_any R7' i _ HT3.out
        have Hset : Hid ((th.set i { T with ps := T.ps.set f z }).set i { T with ps := T.ps.set f z, h := true } = th.set i { T with ps := T.ps.set f z, h := true }) := List.set_set _
        have hd : decide (T.at_ ∈ l ++ [T.at_]) = true := by simp
        simp only [hd] at hmk
        clear had R7 R7' HR6 hd Ht6 t7 o7
        go_wp2_with fail
        refine hmk.mono ?_
        rintro e w8 ⟨rfl, t8, ws8, R8⟩
        have Ht8 : Hid (Touch (sb :: mb :: b :: g :: lv.ownBlock.toList) w w8) := Ht7.out.then t8 (fun y hy => .inl (by simp only [List.mem_cons, List.not_mem_nil, or_false] at hy ⊢; rcases hy with h | h <;> simp [h]))
        have HR8 : Hid (Rm w1 n1 w8 sb b g mb lv7 c x sw ws8 (th.set i { T with ps := T.ps.set f z, h := true }) (l ++ [T.at_]) (n + 1) (fun a => decide (a ∈ l ++ [T.at_]))) := by
          have := R8
          rw [Hset.out] at this
          exact this
        clear hmk R8 t8 Ht7
        go_wp2
        go_ret
        exact ⟨rfl, Ht8.out, lv7, ws8, Ho7.out, fun e => by rw [HE.out] at e; simp at e, fun _ => HR8.out⟩
  · rw [decide_eq_false h4] at ht
    have HE : Hid (stl c sw l T.at_ z = false) := by show _ = _; unfold stl; simp [h4]
    go_wp2_with fail
    refine ht.mono ?_
    rintro e w4 ⟨rfl, l4⟩
    have HR4 : Hid (Rm w1 n1 w4 sb b g mb lv c x sw ws3 (th.set i { T with ps := T.ps.set f z }) l n (fun a => decide (a ∈ l))) := HR3.out.below l4
    have Ht4 : Hid (Touch (sb :: mb :: b :: g :: lv.ownBlock.toList) w w4) := Ht3.out.trans (Touch.of_below l4 _)
    clear ht l4 HR3 h4 Ht3
    go_wp2
    go_ret
    exact ⟨rfl, Ht4.out, lv, ws3, .inl rfl, fun _ => HR4.out, fun e => by rw [HE.out] at e; simp at e⟩
end

end Go.Proofs.YtfihjmoaibmllaaDoor

/-
  pruned, prunes: the list by numbers.
-/
set_option linter.unusedVariables false
set_option maxRecDepth 20000
namespace Go.Proofs.YtfihjmoaibmllaaDoor
open Go.RowKit Go.Shelf

/-- The thing of a number holds a young one. -/
def hN (L : List LT) (sw : Bool) (Fr : List (Nat × List Int)) (z : Int) : Bool := ((Fr[(z - 1).toNat]?).map (·.2)).any (fun fs => fs.any (ynl L sw))

theorem hN_at {L : List LT} {sw : Bool} {Fr : List (Nat × List Int)} {j : Nat} {p : Nat × List Int} (h : Fr[j]? = some p) : hN L sw Fr ((j : Int) + 1) = p.2.any (ynl L sw) := by
  unfold hN
  rw [show ((j : Int) + 1 - 1).toNat = j from by omega, h]
  rfl

section
variable {w : World} {n1 sb b g n2 mm lb : Nat} {lv fv : Value} {c : Cfg} {x : Tps} {sw : Bool} {ws : Nat → Int} {ls : List Int} {L : List LT} {Fr : List (Nat × List Int)}

set_option maxHeartbeats 8000000 in
theorem pruned_any (hM : Mm w mm lb b sb) (hly : Ly n1 w lb c L) (hn1 : n1 ≤ w.heap.size) (hlen : L.length ≤ 400) (hA : Ar w b g c x sw ws) (hv : Lrd w.heap.size w lv .i64 ls) (hin : ∀ z, z ∈ ls → 1 ≤ z ∧ z ≤ L.length) (hl : ls.length ≤ 100000) (hF : Fd w n2 fv Fr) (hFl : Fr.length = L.length) (ini : ∀ p, p ∈ Fr → (∀ z, z ∈ p.2 → InI z) ∧ p.2.length ≤ 60) :
    Calls Tryd.prog 25 #[.pointer (some ⟨mm, 0, none⟩), lv, fv] w fun e w' => ∃ v', e = .returned v' ∧ w'.ownsRow w.heap.size 3 1 v' (ls.filter (hN L sw Fr)).length (ints (ls.filter (hN L sw Fr))) ∧ Below w.heap.size w w' := by
  obtain ⟨a, cap, rfl, -, hc⟩ := hv
  obtain ⟨i0, hi0, hz0, hz1, hz2⟩ := info_parts Tryd.infoInt
  have HI : Hid (Tryd.prog.info? 3 = some i0 ∧ i0.zero = some (.int .i64 0) ∧ i0.size = 1 ∧ i0.bytes = 8) := ⟨hi0, hz0, hz1, hz2⟩
  have Hc : Hid (∀ (f : Nat) z, ls[f]? = some z → ∃ q off, a = some ⟨q, off, none⟩ ∧ q < w.heap.size ∧ w.cell? ⟨q, off + f, none⟩ = some (.int .i64 z)) := hc
  have HF : Hid (Fd w n2 fv Fr ∧ Fr.length = L.length ∧ (∀ p, p ∈ Fr → (∀ z, z ∈ p.2 → InI z) ∧ p.2.length ≤ 60) ∧ (∀ z, z ∈ ls → 1 ≤ z ∧ z ≤ L.length)) := ⟨hF, hFl, ini, hin⟩
  have Hho : Hid (∀ W, Below w.heap.size w W → ∀ p, p ∈ Fr → Calls Tryd.prog 14 #[.pointer (some ⟨mm, 0, none⟩), fval p] W fun e w' => e = .returned (.bool (p.2.any (ynl L sw))) ∧ Below W.heap.size W w') := fun W hW p hp => holds6_any (hM.below hW) (hly.mono hn1 hW) (Nat.le_trans hn1 hW.size) hlen (hA.below hW) (fval p) p.2 ((hF.below hW).lrd hp) (ini p hp).1 (by have := (ini p hp).2; omega)
  obtain ⟨fa, fcap, hfv⟩ := own_sl hF.row
  subst hfv
  obtain ⟨N, hN'⟩ : ∃ N, N = Fr.length := ⟨_, rfl⟩
  rw [← hN'] at HF ⊢
  have HN : Hid (N = Fr.length) := hN'
  have hNb : N ≤ 400 := by omega
  obtain ⟨q, hq⟩ : ∃ q, q = hN L sw Fr := ⟨_, rfl⟩
  rw [← hq]
  have Hq : Hid (q = hN L sw Fr) := hq
  obtain ⟨nl, hnl⟩ : ∃ n, n = ls.length := ⟨_, rfl⟩
  have Hnl : Hid (nl = ls.length) := hnl
  rw [← hnl] at hl ⊢
  clear hc hM hly hn1 hlen hA hin hF hFl ini hi0 hz0 hz1 hz2 hN' hq hnl
  go_enter Tryd.func25, Tryd.ntmps25
  go_wp2
  go_loopw [7, 8] (fun v7 v8 wr => ∃ k m : Nat, k ≤ nl ∧ m ≤ k ∧ v8 = .int .i64 k ∧ Hid (m = ((ls.take k).filter q).length) ∧ Hid (wr.ownsRow w.heap.size 3 1 v7 m (ints ((ls.take k).filter q))) ∧ Hid (Below w.heap.size w wr)) (fun _ v8 _ => nl - (intOf v8).toNat)
  case atStart => exact ⟨0, 0, Nat.zero_le _, Nat.le_refl _, rfl, (rfl : 0 = (([] : List Int).filter q).length), World.ownsRow_nil _ _ _ _, Below.refl _ _⟩
  case round =>
    obtain ⟨k, m, hk, hmk, rfl, Hm, Hrow, Hbe⟩ := hrel
    obtain ⟨a6, n6, c6, rfl⟩ := row_slice Hrow.out
    by_cases hkl : k < nl
    · have hkl2 : k < ls.length := by have := Hnl.out; omega
      have hz : ls[k]? = some (ls[k]'hkl2) := List.getElem?_eq_getElem hkl2
      generalize ls[k]'hkl2 = z at hz
      have Htk : Hid (ls.take (k + 1) = ls.take k ++ [z]) := by show _ = _; rw [List.take_add_one, hz]; rfl
      obtain ⟨lq, off, rfl, hlq, ca⟩ := Hc.out k z hz
      have hz1 := HF.out.2.2.2 z (List.mem_of_getElem? hz)
      obtain ⟨j, hj⟩ : ∃ j : Nat, z = (j : Int) + 1 := ⟨(z - 1).toNat, by omega⟩
      subst hj
      have hjN : j < N := by have := HF.out.2.1; omega
      obtain ⟨pr, hpr⟩ : ∃ p, Fr[j]? = some p := ⟨_, List.getElem?_eq_getElem (by have := HN.out; omega)⟩
      have hpm := List.mem_of_getElem? hpr
      obtain ⟨fq, fc, e1, hfq, xf⟩ := (HF.out.1.below Hbe.out).at_ hpr
      rw [← HN.out] at e1
      simp only [Value.slice.injEq] at e1
      obtain ⟨e1, -, -⟩ := e1
      subst e1
      have Hca : Hid (lq < w.heap.size ∧ w.cell? ⟨lq, off + k, none⟩ = some (.int .i64 ((j : Int) + 1))) := ⟨hlq, ca⟩
      have da : wr.cell? ⟨lq, off + k, none⟩ = some (.int .i64 ((j : Int) + 1)) := (Hbe.out.cell (p := ⟨lq, off + k, none⟩) hlq).trans ca
      have hho := Hho.out wr Hbe.out pr hpm
      rw [← hN_at (L := L) (sw := sw) hpr, ← Hq.out] at hho
      obtain ⟨nf, hnf⟩ : ∃ n, n = pr.2.length := ⟨_, rfl⟩
      have efv : fval pr = .slice (some ⟨pr.1, 0, none⟩) nf nf := by rw [hnf]
      rw [efv] at hho xf
      have hkI : (k : Int) < (nl : Int) := by omega
      clear hz ca hlq hz1 hpr hpm hfq hnf efv
      cases hb : q ((j : Int) + 1)
      · rw [hb] at hho
        have Hno : Hid ((ls.take (k + 1)).filter q = (ls.take k).filter q) := by show _ = _; rw [Htk.out, List.filter_append, List.filter_cons_of_neg (by rw [hb]; simp), List.filter_nil, List.append_nil]
        clear hb
        go_wp2_with fail
        refine hho.mono ?_
        rintro e w2 ⟨rfl, l2⟩
        have Hrow2 : Hid (w2.ownsRow w.heap.size 3 1 (.slice a6 n6 c6) m (ints ((ls.take k).filter q))) := row_keep Hrow.out (fun y hy => l2.block y (row_lt Hrow.out y hy))
        have Hbe2 : Hid (Below w.heap.size w w2) := Hbe.out.trans (l2.mono Hbe.out.size)
        clear hho l2 da xf Hrow Hbe
        go_wp2_with fail
        go_roundw
        case rel => exact ⟨k + 1, m, by omega, by omega, by go_num, by rw [Hno.out]; exact Hm, by rw [Hno.out]; exact Hrow2, Hbe2⟩
        case measure => simp [intOf]; omega
      · rw [hb] at hho
        have Hyes : Hid ((ls.take (k + 1)).filter q = (ls.take k).filter q ++ [(j : Int) + 1]) := by show _ = _; rw [Htk.out, List.filter_append, List.filter_cons_of_pos hb, List.filter_nil]
        clear hb
        go_wp2_with fail
        refine hho.mono ?_
        rintro e w2 ⟨rfl, l2⟩
        have Hrow2 : Hid (w2.ownsRow w.heap.size 3 1 (.slice a6 n6 c6) m (ints ((ls.take k).filter q))) := row_keep Hrow.out (fun y hy => l2.block y (row_lt Hrow.out y hy))
        have Hbe2 : Hid (Below w.heap.size w w2) := Hbe.out.trans (l2.mono Hbe.out.size)
        have da2 : w2.cell? ⟨lq, off + k, none⟩ = some (.int .i64 ((j : Int) + 1)) := (Hbe2.out.cell (p := ⟨lq, off + k, none⟩) Hca.out.1).trans Hca.out.2
        clear hho l2 da xf Hrow Hbe
        go_wp2_with (at_builtin; refine wpList_append_own_at _ rfl _ _ 42 rfl w.heap.size 3 i0 (.int .i64 0) 1 8 Tryd.underlying42 HI.out.1 HI.out.2.1 HI.out.2.2.1 HI.out.2.2.2 rfl (by decide) _ _ _ rfl (Hrow2.out.alloc _) ⟨w2.heap.size, 0, none⟩ 1 1 [.int .i64 ((j : Int) + 1)] rfl rfl (cell_one_new _ _ _) (by simp [Value.oneCell']) (by simp [maxLen]; omega) (by omega) (by have := Hbe2.out.size; simp; omega) ?_; intro v' w3 hown' hgrow _ hat)
        have Hrow3 : Hid (w3.ownsRow w.heap.size 3 1 v' (m + 1) (ints ((ls.take (k + 1)).filter q))) := by
          show w3.ownsRow w.heap.size 3 1 v' (m + 1) (ints ((ls.take (k + 1)).filter q))
          rw [Hyes.out]
          simpa [ints] using hown'
        have Hbe3 : Hid (Below w.heap.size w w3) := (Hbe2.out.alloc Hbe2.out.size _).grown hgrow (by have := Hbe2.out.size; simp; omega) (fun y hy => by
          rcases Hrow2.out.2 with ⟨e1, -⟩ | ⟨g, cap, cur, e1, e2, -⟩
          · have hy' : (Value.slice a6 n6 c6).ownBlock = some y := hy
            rw [e1] at hy'
            simp [Value.ownBlock] at hy'
          · have hy' : (Value.slice a6 n6 c6).ownBlock = some y := hy
            rw [e1] at hy'
            simp [Value.ownBlock] at hy'
            omega)
        have Hm3 : Hid (m + 1 = ((ls.take (k + 1)).filter q).length) := by show _ = _; rw [Hyes.out, List.length_append, ← Hm.out]; rfl
        obtain ⟨a7, n7, c7, hv7⟩ := row_slice hown'
        subst hv7
        clear hown' hgrow hat Hrow2 Hbe2
        go_wp2_with fail
        go_roundw
        case rel => exact ⟨k + 1, m + 1, by omega, by omega, by go_num, Hm3, Hrow3, Hbe3⟩
        case measure => simp [intOf]; omega
    · have hke : k = nl := by omega
      have hkI : ¬ (k : Int) < (nl : Int) := by omega
      have Hr : Hid (wr.ownsRow w.heap.size 3 1 (.slice a6 n6 c6) (ls.filter q).length (ints (ls.filter q))) := by
        have h := Hrow.out
        rw [Hm.out, hke, Hnl.out, List.take_length] at h
        exact h
      clear Hrow
      go_wp2
      go_ret
      exact ⟨_, rfl, Hr.out, Hbe.out⟩
end

end Go.Proofs.YtfihjmoaibmllaaDoor

/-
  RemsetHolds: what it keeps.
-/
set_option linter.unusedVariables false
set_option maxRecDepth 20000
namespace Go.Proofs.YtfihjmoaibmllaaDoor
open Go.RowKit Go.Shelf

/-- The memory, its lay, arena, Set, and the fields by numbers. -/
structure Au (w1 : World) (n1 : Nat) (W : World) (mm lb b sb g mb : Nat) (lv : Value) (c : Cfg) (x : Tps) (sw : Bool) (ws : Nat → Int) (th : List Tng) (l : List Int) (n : Nat) (S : Int → Bool) (L : List LT) (fv : Value) (Fr : List (Nat × List Int)) (n2 : Nat) : Prop where
  mm_ : Mm W mm lb b sb
  ly : Ly n1 W lb c L
  rm : Rm w1 n1 W sb b g mb lv c x sw ws th l n S
  fd : Fd W n2 fv Fr
  n12 : n1 ≤ n2
  dj : ∀ q, lv.ownBlock = some q → ∀ p, p ∈ Fr → p.1 ≠ q

section
variable {w1 W W' : World} {n1 mm lb b sb g mb n n2 : Nat} {lv fv : Value} {c : Cfg} {x : Tps} {sw : Bool} {ws : Nat → Int} {th : List Tng} {l : List Int} {S : Int → Bool} {L : List LT} {Fr : List (Nat × List Int)}

theorem Au.hn (H : Au w1 n1 W mm lb b sb g mb lv c x sw ws th l n S L fv Fr n2) : n1 ≤ W.heap.size := Nat.le_trans H.rm.hn H.rm.bq.be.size

theorem Au.below (H : Au w1 n1 W mm lb b sb g mb lv c x sw ws th l n S L fv Fr n2) (h : Below W.heap.size W W') : Au w1 n1 W' mm lb b sb g mb lv c x sw ws th l n S L fv Fr n2 :=
  ⟨H.mm_.below h, H.ly.mono H.hn h, H.rm.below h, H.fd.below h, H.n12, H.dj⟩

theorem Al.au (H : Al w1 n1 W mm lb b sb g mb (.slice none 0 0) c x ws th l n S L fv Fr n2) : Au w1 n1 W mm lb b sb g mb (.slice none 0 0) c x false ws th l n S L fv Fr n2 :=
  ⟨H.mm_, H.ly, H.rm, H.fd, H.n12, fun q hq => by simp [Value.ownBlock] at hq⟩

/-- What is none of the Set's and the arena's blocks. -/
theorem Au.off (H : Au w1 n1 W mm lb b sb g mb lv c x sw ws th l n S L fv Fr n2) {q : Nat} {cs : Array Value} {t : TypeId} (hq : W.heap[q]? = some (.cells cs t (0, 0))) (h1 : t ≠ 82) (h2 : t ≠ 88) (h3 : t ≠ 46) : q ∉ [sb, mb, b, g] := by
  obtain ⟨⟨gs, hgs⟩, bs, hbs⟩ := H.rm.bq.ax.ar.rowTy
  simp only [List.mem_cons, List.not_mem_nil, or_false, not_or]
  exact ⟨heap_ty_ne hq H.rm.rs.own h1, fun e => H.rm.rs.map.ne hq e, heap_ty_ne hq hbs h2, heap_ty_ne hq hgs h3⟩

theorem off_five {q : Nat} {o : Option Nat} (h : q ∉ [sb, mb, b, g]) (h2 : some q ≠ o) : q ∉ sb :: mb :: b :: g :: o.toList := by
  simp only [List.mem_cons, List.not_mem_nil, or_false, not_or] at h ⊢
  refine ⟨h.1, h.2.1, h.2.2.1, h.2.2.2, fun e => h2 ?_⟩
  cases o with
  | none => simp at e
  | some y => simp at e; rw [e]

/-- The Set's and the arena's calls. -/
theorem Au.touch {lv' : Value} {sw' : Bool} {ws' : Nat → Int} {th' : List Tng} {l' : List Int} {n' : Nat} {S' : Int → Bool} (H : Au w1 n1 W mm lb b sb g mb lv c x sw ws th l n S L fv Fr n2) (t : Touch (sb :: mb :: b :: g :: lv.ownBlock.toList) W W') (h : Rm w1 n1 W' sb b g mb lv' c x sw' ws' th' l' n' S') (ho : ∀ q, lv'.ownBlock = some q → lv.ownBlock = some q ∨ W.heap.size ≤ q) : Au w1 n1 W' mm lb b sb g mb lv' c x sw' ws' th' l' n' S' L fv Fr n2 := by
  refine ⟨⟨(t.block _ H.mm_.lt (off_five (H.off H.mm_.own (by decide) (by decide) (by decide)) (row_ne H.mm_.own H.rm.rs.row (by decide)))).trans H.mm_.own⟩, H.ly.below (t.below H.hn (fun q hq => ?_)), h, H.fd.keep (fun q hq => ?_) (fun p hp => ?_), H.n12, fun q hq p hp => ?_⟩
  · simp only [List.mem_cons] at hq
    rcases hq with rfl | rfl | rfl | rfl | hq
    · exact H.rm.ls
    · exact H.rm.lm
    · exact H.rm.bq.lb
    · exact H.rm.bq.lg
    · exact H.rm.lv_ q (by cases ho : lv.ownBlock with | none => rw [ho] at hq; simp at hq | some y => rw [ho] at hq; simp at hq; rw [hq])
  · refine t.block q (row_lt H.fd.row q hq) ?_
    rcases H.fd.row.2 with ⟨e, _⟩ | ⟨y, cp, cur, e, _, hy, _⟩
    · rw [e] at hq; simp [Value.ownBlock] at hq
    · rw [e] at hq
      simp [Value.ownBlock] at hq
      subst hq
      exact off_five (H.off hy (by decide) (by decide) (by decide)) (row_ne hy H.rm.rs.row (by decide))
  · have hc := (H.fd.rows p hp).1
    exact t.block _ (Array.getElem?_eq_some_iff.1 hc).1 (off_five (H.off hc (by decide) (by decide) (by decide)) (fun e => H.dj p.1 e.symm p hp rfl))
  · rcases ho q hq with h | h
    · exact H.dj q h p hp
    · have := (Array.getElem?_eq_some_iff.1 (H.fd.rows p hp).1).1
      omega

/-- A list of one's own stays over the Set's calls. -/
theorem Au.mine (H : Au w1 n1 W mm lb b sb g mb lv c x sw ws th l n S L fv Fr n2) (t : Touch (sb :: mb :: b :: g :: lv.ownBlock.toList) W W') {base m : Nat} {v : Value} {xs : List Value} (h : W.ownsRow base 3 1 v m xs) (hd : ∀ q, v.ownBlock = some q → lv.ownBlock ≠ some q) : W'.ownsRow base 3 1 v m xs := by
  refine row_keep h (fun q hq => t.block q (row_lt h q hq) ?_)
  have hd' := hd q hq
  rcases h.2 with ⟨e, _⟩ | ⟨y, cp, cur, e, _, hy, _⟩
  · rw [e] at hq; simp [Value.ownBlock] at hq
  · rw [e] at hq
    simp [Value.ownBlock] at hq
    subst hq
    exact off_five (H.off hy (by decide) (by decide) (by decide)) (fun e => hd' e.symm)

/-- A list of one's own stays over calls that leave the list's block. -/
theorem Au.keep4 (H : Au w1 n1 W mm lb b sb g mb lv c x sw ws th l n S L fv Fr n2) (t : Touch [sb, mb, b, g] W W') {base m : Nat} {v : Value} {xs : List Value} (h : W.ownsRow base 3 1 v m xs) : W'.ownsRow base 3 1 v m xs := by
  refine row_keep h (fun q hq => t.block q (row_lt h q hq) ?_)
  rcases h.2 with ⟨e, _⟩ | ⟨y, cp, cur, e, _, hy, _⟩
  · rw [e] at hq; simp [Value.ownBlock] at hq
  · rw [e] at hq
    simp [Value.ownBlock] at hq
    subst hq
    exact H.off hy (by decide) (by decide) (by decide)

theorem touch_five {o : Option Nat} (t : Touch [sb, mb, b, g] W W') : Touch (sb :: mb :: b :: g :: o.toList) W W' := t.wide (fun y hy => by
  simp only [List.mem_cons, List.not_mem_nil, or_false] at hy ⊢
  rcases hy with h | h | h | h <;> simp [h])

/-- A row of the fields is written. -/
theorem Au.field (H : Au w1 n1 W mm lb b sb g mb lv c x sw ws th l n S L fv Fr n2) {i : Nat} {p : Nat × List Int} (hp : Fr[i]? = some p) (l' : List Int) (t : Touch [p.1] W W') (hc : W'.heap[p.1]? = some (.cells (ints l').toArray 3 (0, 0))) (hl : l'.length = p.2.length) : Au w1 n1 W' mm lb b sb g mb lv c x sw ws th l n S L fv (Fr.set i (p.1, l')) n2 := by
  obtain ⟨⟨gs, hgs⟩, bs, hbs⟩ := H.rm.bq.ax.ar.rowTy
  have hm := List.mem_of_getElem? hp
  have hpc := (H.fd.rows p hm).1
  have hp2 := (H.fd.rows p hm).2
  have hn12 := H.n12
  have ne : ∀ y cs ty, W.heap[y]? = some (.cells cs ty (0, 0)) → ty ≠ 3 → y ∉ [p.1] := fun y cs ty hy hty => by
    simp only [List.mem_cons, List.not_mem_nil, or_false]
    exact heap_ty_ne hy hpc hty
  have be : Below n1 W W' := t.below H.hn (fun q hq => by simp only [List.mem_cons, List.not_mem_nil, or_false] at hq; omega)
  have t0 := H.rm.bq.t0
  have t1 := H.rm.bq.t1
  have hmb : mb ∉ [p.1] := by
    simp only [List.mem_cons, List.not_mem_nil, or_false]
    exact fun e => H.rm.rs.map.ne hpc e.symm
  have hrm : Rm w1 n1 W' sb b g mb lv c x sw ws th l n S := ⟨⟨H.rm.bq.ax.touch t (ne _ _ _ hbs (by decide)) (ne _ _ _ hgs (by decide)) (by simp; omega) (by simp; omega), H.rm.bq.be.trans be, H.rm.bq.lb, H.rm.bq.lg, t0, t1⟩, H.rm.rs.touch t (ne _ _ _ H.rm.rs.own (by decide)) hmb (fun q hq => by
    simp only [List.mem_cons, List.not_mem_nil, or_false]
    exact fun e => H.dj q hq p hm e.symm), H.rm.ls, H.rm.lm, H.rm.lv_, H.rm.hn⟩
  refine ⟨⟨(t.block _ H.mm_.lt (ne _ _ _ H.mm_.own (by decide))).trans H.mm_.own⟩, H.ly.below be, hrm, ⟨?_, fun q hq => ?_, ?_⟩, H.n12, fun q hq y hy => ?_⟩
  · have e1 : (Fr.set i (p.1, l')).map fval = Fr.map fval := map_set_same fval Fr i p _ hp (by show Value.slice _ _ _ = Value.slice _ _ _; rw [hl])
    rw [e1, List.length_set]
    refine row_keep H.fd.row (fun q hq => t.block q (row_lt H.fd.row q hq) ?_)
    simp only [List.mem_cons, List.not_mem_nil, or_false]
    intro e
    subst e
    exact row_ne hpc H.fd.row (by decide) hq.symm
  · obtain ⟨j, hj⟩ := List.getElem?_of_mem hq
    rcases set_at_of hj with ⟨rfl, rfl⟩ | ⟨hne, hj2⟩
    · exact ⟨hc, hp2⟩
    · have hq2 := List.mem_of_getElem? hj2
      refine ⟨(t.block _ (Array.getElem?_eq_some_iff.1 (H.fd.rows q hq2).1).1 ?_).trans (H.fd.rows q hq2).1, (H.fd.rows q hq2).2⟩
      simp only [List.mem_cons, List.not_mem_nil, or_false]
      intro e
      have hd := List.pairwise_iff_getElem.1 (show (Fr.map (·.1)).Pairwise (· ≠ ·) from H.fd.dp)
      obtain ⟨j1, j2⟩ := List.getElem?_eq_some_iff.1 hj2
      obtain ⟨i1, i2⟩ := List.getElem?_eq_some_iff.1 hp
      rcases Nat.lt_or_gt_of_ne hne with h | h
      · exact hd j i (by rw [List.length_map]; exact j1) (by rw [List.length_map]; exact i1) h (by rw [List.getElem_map, List.getElem_map, j2, i2]; exact e)
      · exact hd i j (by rw [List.length_map]; exact i1) (by rw [List.length_map]; exact j1) h (by rw [List.getElem_map, List.getElem_map, j2, i2]; exact e.symm)
  · have e1 : (Fr.set i (p.1, l')).map (·.1) = Fr.map (·.1) := map_set_same (fun p : Nat × List Int => p.1) Fr i p _ hp rfl
    rw [e1]
    exact H.fd.dp
  · rcases List.mem_or_eq_of_mem_set hy with h | rfl
    · exact H.dj q hq y h
    · exact H.dj q hq p hm
end

end Go.Proofs.YtfihjmoaibmllaaDoor

/-
  Prune: its list lies in a block of its own, laid anew.
-/
set_option linter.unusedVariables false
set_option maxRecDepth 20000
namespace Go.Proofs.YtfihjmoaibmllaaDoor
open Go.RowKit Go.Shelf

section
variable {w1 w w' : World} {n1 sb b g mb n : Nat} {lv : Value} {c : Cfg} {x : Tps} {sw : Bool} {ws : Nat → Int} {th : List Tng} {l : List Int} {S : Int → Bool}

set_option maxHeartbeats 8000000 in
theorem renew_full (H : Rm w1 n1 w sb b g mb lv c x sw ws th l n S) (nv : Value) (ns : List Int) (hrow : w.ownsRow 0 3 1 nv ns.length (ints ns)) (hns : ∀ a, a ∈ ns → ∃ T, T ∈ th ∧ T.at_ = a) (hl : ns.length ≤ 100000) (hn : n ≤ 100000) :
    Calls Tryd.prog 42 #[.pointer (some ⟨sb, 0, none⟩), nv] w fun e w' => e = .returned (.tuple #[]) ∧ Touch [sb, mb, b, g] w w' ∧ ∃ lv' ws', (∀ q, lv'.ownBlock = some q → w.heap.size ≤ q) ∧ Rm w1 n1 w' sb b g mb lv' c x sw ws' (mk_ (inS' (hta c sw th) S ns) ns th) (ns.filter (hta c sw th)) (n + ns.length) (inS' (hta c sw th) S ns) := by
  obtain ⟨r0, t0⟩ := setList_rs H
  have HW : Hid (∀ a, a ∈ ns → ∃ T, T ∈ th ∧ T.at_ = a) := hns
  have Hin : Hid (∀ a, a ∈ ns → InI a) := fun a ha => by
    obtain ⟨T, h1, h2⟩ := hns a ha
    have := H.bq.ax.pos h1
    rw [← h2]
    unfold InI
    omega
  obtain ⟨av, cap, hnv, hcap, hcells⟩ := row_at hrow (by decide)
  have hnb : ∀ q, nv.ownBlock = some q → q ≠ sb ∧ q ≠ mb ∧ q ≠ b ∧ q ≠ g := fun q hq => by
    obtain ⟨⟨gs, hgs⟩, bs, hbs⟩ := H.bq.ax.ar.rowTy
    refine ⟨fun e => row_ne H.rs.own hrow (by decide) (by rw [← e]; exact hq.symm), fun e => ?_, fun e => row_ne hbs hrow (by decide) (by rw [← e]; exact hq.symm), fun e => row_ne hgs hrow (by decide) (by rw [← e]; exact hq.symm)⟩
    rcases hrow.2 with ⟨e1, _⟩ | ⟨y, cp, cur, e1, _, hy, _⟩
    · rw [e1] at hq; simp [Value.ownBlock] at hq
    · rw [e1] at hq
      simp [Value.ownBlock] at hq
      subst hq
      exact H.rs.map.ne hy e
  have Hnb : Hid (∀ q, nv.ownBlock = some q → q ≠ sb ∧ q ≠ mb ∧ q ≠ b ∧ q ≠ g) := hnb
  have hrow1 := row_keep hrow (fun q hq => t0.block q (row_lt hrow q hq) (by simp; exact (hnb q hq).1))
  have Hrow1 : Hid ((w.setCell ⟨sb, 1, none⟩ (.slice none 0 0)).ownsRow 0 3 1 nv ns.length (ints ns)) := hrow1
  have HR0 : Hid (Rm w1 n1 (w.setCell ⟨sb, 1, none⟩ (.slice none 0 0)) sb b g mb (.slice none 0 0) c x sw ws th [] n S) := r0
  have Hlt : Hid (∀ q, nv.ownBlock = some q → q < w.heap.size) := fun q hq => row_lt hrow q hq
  have k1 : w.cell? ⟨sb, 1, none⟩ = some lv := H.rs.cell 1
  have f1 : w.frozen? ⟨sb, 1, none⟩ = false := by
    unfold World.frozen?
    simp only [H.rs.own]
    simp
  have hs0 : w.heap.size = (w.setCell ⟨sb, 1, none⟩ (.slice none 0 0)).heap.size := by simp [World.setCell]
  have HT0 : Hid (Touch [sb, mb, b, g] w (w.setCell ⟨sb, 1, none⟩ (.slice none 0 0))) := t0.wide (fun x hx => by simp at hx; simp [hx])
  clear hcells hrow hrow1 r0 t0 hnb hns
  subst hnv
  obtain ⟨q, hq⟩ : ∃ q, q = hta c sw th := ⟨_, rfl⟩
  rw [← hq]
  have Hq : Hid (q = hta c sw th) := hq
  clear hq H
  go_enter Tryd.func42, Tryd.ntmps42
  go_upto_region 1 with fail
  clear k1 f1
  generalize w.setCell ⟨sb, 1, none⟩ (.slice none 0 0) = w0 at *
  go_wp2
  go_loopw [13] (fun v13 wr => ∃ j : Nat, j ≤ ns.length ∧ v13 = .int .i64 j ∧ ∃ lv', Hid (Rm w1 n1 wr sb b g mb lv' c x sw ws th ((ns.take j).filter q) (n + j) (inS' q S (ns.take j))) ∧ Hid (wr.ownsRow 0 3 1 (.slice av ns.length cap) ns.length (ints ns)) ∧ Hid (∀ y, lv'.ownBlock = some y → w0.heap.size ≤ y) ∧ w0.heap.size ≤ wr.heap.size ∧ Hid (Touch [sb, mb, b, g] w0 wr)) (fun v13 _ => ns.length - (intOf v13).toNat)
  case atStart => exact ⟨0, Nat.zero_le _, rfl, .slice none 0 0, (by
      have e : inS' q S (ns.take 0) = S := by funext a; simp [inS']
      show Hid (Rm _ _ _ _ _ _ _ _ _ _ _ _ _ _ _ _)
      rw [e]
      exact HR0), Hrow1, (fun y hy => by simp [Value.ownBlock] at hy : ∀ y, (Value.slice none 0 0).ownBlock = some y → w0.heap.size ≤ y), Nat.le_refl _, Touch.refl _ _⟩
  case round =>
    obtain ⟨j, hj, rfl, lv2, HR, Hrow, Hlv, hsz, HTc⟩ := hrel
    clear HR0 Hrow1
    by_cases hjl : j < ns.length
    · have haj : ns[j]? = some (ns[j]'hjl) := List.getElem?_eq_getElem hjl
      generalize ns[j]'hjl = a at haj
      have Haj : Hid (ns[j]? = some a) := haj
      have ham := List.mem_of_getElem? haj
      obtain ⟨T, hT, hTa⟩ := HW.out a ham
      have Ha : Hid (InI a) := Hin.out a ham
      obtain ⟨qa, ea, ca⟩ : ∃ qa, av = some ⟨qa, 0, none⟩ ∧ wr.cell? ⟨qa, j, none⟩ = some (.int .i64 a) := by
        obtain ⟨a0, cp, h1, -, h3⟩ := row_at Hrow.out (by decide)
        simp at h1
        obtain ⟨y, h4, -, h5⟩ := h3 j (.int .i64 a) (by rw [List.getElem?_map, haj]; rfl)
        exact ⟨y, by rw [h1.1, h4], h5⟩
      subst ea
      have htk : ns.take (j + 1) = ns.take j ++ [a] := by rw [List.take_add_one, haj]; rfl
      have Htk : Hid (ns.take (j + 1) = ns.take j ++ [a]) := htk
      have hlen : (ns.take j).length = j := by simp; omega
      have hqa : q a = (decide (spc c a = 4) && hyT c sw T) := by rw [Hq.out, ← hTa]; exact hta_at HR.out.bq.ax.hl sw hT
      have ht := sTenured_any HR.out.rs HR.out.bq.ax.ar a
      have HT : Hid (T ∈ th ∧ T.at_ = a) := ⟨hT, hTa⟩
      have hjI : (j : Int) < (ns.length : Int) := by omega
      have Hfl : Hid (((ns.take j).filter q).length ≤ j) := by
        have := List.length_filter_le q (ns.take j)
        show _ ≤ _
        omega
      clear haj ham hT hTa htk hlen
      by_cases h4 : spc c a = 4
      · rw [decide_eq_true h4] at ht hqa
        go_wp2_with fail
        refine ht.mono ?_
        rintro e w5 ⟨rfl, l5⟩
        have HR5 : Hid (Rm w1 n1 w5 sb b g mb lv2 c x sw ws th ((ns.take j).filter q) (n + j) (inS' q S (ns.take j))) := HR.out.below l5
        have Hrow5 : Hid (w5.ownsRow 0 3 1 (.slice (some ⟨qa, 0, none⟩) ns.length cap) ns.length (ints ns)) := row_keep Hrow.out (fun y hy => l5.block y (row_lt Hrow.out y hy))
        have hsz5 : w0.heap.size ≤ w5.heap.size := Nat.le_trans hsz l5.size
        have HTc5 : Hid (Touch [sb, mb, b, g] w0 w5) := HTc.out.trans (Touch.of_below l5 _)
        clear ht l5 HR Hrow hsz ca
        have hy := holdsYoung_any HR5.out HT.out.1
        rw [HT.out.2] at hy
        rw [Bool.true_and] at hqa
        rw [← hqa] at hy
        cases hb : q a
        · rw [hb] at hy
          have Hb : Hid (q a = false) := hb
          clear hb hqa h4
          go_wp2_with fail
          refine hy.mono ?_
          rintro e w6 ⟨rfl, l6⟩
          have HR6 : Hid (Rm w1 n1 w6 sb b g mb lv2 c x sw ws th ((ns.take j).filter q) (n + j) (inS' q S (ns.take j))) := HR5.out.below l6
          have Hrow6 : Hid (w6.ownsRow 0 3 1 (.slice (some ⟨qa, 0, none⟩) ns.length cap) ns.length (ints ns)) := row_keep Hrow5.out (fun y hy => l6.block y (row_lt Hrow5.out y hy))
          have hsz6 : w0.heap.size ≤ w6.heap.size := Nat.le_trans hsz5 l6.size
          have HTc6 : Hid (Touch [sb, mb, b, g] w0 w6) := HTc5.out.trans (Touch.of_below l6 _)
          clear hy l6 HR5 Hrow5 hsz5
          have k2 : w6.cell? ⟨sb, 2, none⟩ = some (.map (some mb)) := HR6.out.rs.cell 2
          obtain ⟨D, hown, hS⟩ := HR6.out.rs.map
          have HS : Hid (∀ a, InI a → Maps.has D (.int .i64 a) = inS' q S (ns.take j) a) := hS
          have hkey := key_of Ha.out
          clear hS
          go_wp2_with (at_delete; refine wpList_delete_own _ rfl _ _ 80 3 rfl 115 Tryd.keyed Tryd.underlying80 unitElem mb (n + j) D rfl hown _ _ rfl hkey ?_; intro w7 hown7 hturn7)
          have HR7 : Hid (Rm w1 n1 w7 sb b g mb lv2 c x sw ws th ((ns.take (j + 1)).filter q) (n + (j + 1)) (inS' q S (ns.take (j + 1)))) := by
            show Rm _ _ _ _ _ _ _ _ _ _ _ _ _ _ _ _
            rw [Htk.out, List.filter_append, List.filter_cons_of_neg (by rw [Hb.out]; simp), List.filter_nil, List.append_nil]
            exact ((del_rm HR6.out HS.out hown7 hturn7).congr (fun y _ => inS'_del q S (ns.take j) a Hb.out y)).mono (by omega)
          have t7 := turned_touch hturn7
          have Hrow7 : Hid (w7.ownsRow 0 3 1 (.slice (some ⟨qa, 0, none⟩) ns.length cap) ns.length (ints ns)) := row_keep Hrow6.out (fun y hy => t7.block y (row_lt Hrow6.out y hy) (by simp; exact (Hnb.out y hy).2.1))
          have hsz7 : w0.heap.size ≤ w7.heap.size := Nat.le_trans hsz6 t7.size
          have HTc7 : Hid (Touch [sb, mb, b, g] w0 w7) := HTc6.out.trans (t7.wide (fun x hx => by simp at hx; simp [hx]))
          clear t7 hown7 hturn7 HR6 Hrow6 hsz6 k2 hown hkey HS Ha HT Haj Hfl
          go_wp2
          go_roundw
          case rel => exact ⟨j + 1, by omega, by go_num, lv2, HR7, Hrow7, Hlv, hsz7, HTc7⟩
          case measure => simp [intOf]; omega
        · rw [hb] at hy
          have Hb : Hid (q a = true) := hb
          clear hb hqa h4
          go_wp2_with fail
          refine hy.mono ?_
          rintro e w6 ⟨rfl, l6⟩
          have HR6 : Hid (Rm w1 n1 w6 sb b g mb lv2 c x sw ws th ((ns.take j).filter q) (n + j) (inS' q S (ns.take j))) := HR5.out.below l6
          have Hrow6 : Hid (w6.ownsRow 0 3 1 (.slice (some ⟨qa, 0, none⟩) ns.length cap) ns.length (ints ns)) := row_keep Hrow5.out (fun y hy => l6.block y (row_lt Hrow5.out y hy))
          have hsz6 : w0.heap.size ≤ w6.heap.size := Nat.le_trans hsz5 l6.size
          have HTc6 : Hid (Touch [sb, mb, b, g] w0 w6) := HTc5.out.trans (Touch.of_below l6 _)
          clear hy l6 HR5 Hrow5 hsz5
          have hadd := sAdd_any HR6.out a Ha.out (by have := Hfl.out; omega) (by omega)
          go_wp2_with fail
          refine hadd.mono ?_
          rintro e w7 ⟨rfl, lv7, R7, t7, hlv7⟩
          have HR7 : Hid (Rm w1 n1 w7 sb b g mb lv7 c x sw ws th ((ns.take (j + 1)).filter q) (n + (j + 1)) (inS' q S (ns.take (j + 1)))) := by
            show Rm _ _ _ _ _ _ _ _ _ _ _ _ _ _ _ _
            rw [Htk.out, List.filter_append, List.filter_cons_of_pos Hb.out, List.filter_nil]
            exact R7.congr (fun y _ => inS'_put q S (ns.take j) a Hb.out y)
          have Hrow7 : Hid (w7.ownsRow 0 3 1 (.slice (some ⟨qa, 0, none⟩) ns.length cap) ns.length (ints ns)) := row_keep Hrow6.out (fun y hy => t7.block y (row_lt Hrow6.out y hy) (by
            have h1 := Hnb.out y hy
            have h2 := Hlt.out y hy
            simp only [List.mem_cons, Option.mem_toList, not_or]
            exact ⟨h1.1, h1.2.1, fun e => by have := Hlv.out y e; omega⟩))
          have Hlv7 : Hid (∀ y, lv7.ownBlock = some y → w0.heap.size ≤ y) := fun y hy => by
            rcases hlv7 with h | ⟨z, h, h2⟩
            · exact Hlv.out y (by rw [← h]; exact hy)
            · rw [h] at hy
              simp at hy
              omega
          have hsz7 : w0.heap.size ≤ w7.heap.size := Nat.le_trans hsz6 t7.size
          have HTc7 : Hid (Touch [sb, mb, b, g] w0 w7) := HTc6.out.then t7 (fun y hy => by
            simp only [List.mem_cons, Option.mem_toList] at hy
            rcases hy with rfl | rfl | hy
            · exact .inl (by simp)
            · exact .inl (by simp)
            · exact .inr (Hlv.out y hy))
          clear hadd R7 t7 hlv7 HR6 Hrow6 hsz6 Ha HT Haj Hfl Hlv
          go_wp2
          go_roundw
          case rel => exact ⟨j + 1, by omega, by go_num, lv7, HR7, Hrow7, Hlv7, hsz7, HTc7⟩
          case measure => simp [intOf]; omega
      · rw [decide_eq_false h4] at ht hqa
        rw [Bool.false_and] at hqa
        have Hb : Hid (q a = false) := hqa
        go_wp2_with fail
        refine ht.mono ?_
        rintro e w6 ⟨rfl, l6⟩
        have HR6 : Hid (Rm w1 n1 w6 sb b g mb lv2 c x sw ws th ((ns.take j).filter q) (n + j) (inS' q S (ns.take j))) := HR.out.below l6
        have Hrow6 : Hid (w6.ownsRow 0 3 1 (.slice (some ⟨qa, 0, none⟩) ns.length cap) ns.length (ints ns)) := row_keep Hrow.out (fun y hy => l6.block y (row_lt Hrow.out y hy))
        have hsz6 : w0.heap.size ≤ w6.heap.size := Nat.le_trans hsz l6.size
        have HTc6 : Hid (Touch [sb, mb, b, g] w0 w6) := HTc.out.trans (Touch.of_below l6 _)
        clear ht l6 HR Hrow hsz ca hqa h4
        have k2 : w6.cell? ⟨sb, 2, none⟩ = some (.map (some mb)) := HR6.out.rs.cell 2
        obtain ⟨D, hown, hS⟩ := HR6.out.rs.map
        have HS : Hid (∀ a, InI a → Maps.has D (.int .i64 a) = inS' q S (ns.take j) a) := hS
        have hkey := key_of Ha.out
        clear hS
        go_wp2_with (at_delete; refine wpList_delete_own _ rfl _ _ 80 3 rfl 115 Tryd.keyed Tryd.underlying80 unitElem mb (n + j) D rfl hown _ _ rfl hkey ?_; intro w7 hown7 hturn7)
        have HR7 : Hid (Rm w1 n1 w7 sb b g mb lv2 c x sw ws th ((ns.take (j + 1)).filter q) (n + (j + 1)) (inS' q S (ns.take (j + 1)))) := by
          show Rm _ _ _ _ _ _ _ _ _ _ _ _ _ _ _ _
          rw [Htk.out, List.filter_append, List.filter_cons_of_neg (by rw [Hb.out]; simp), List.filter_nil, List.append_nil]
          exact ((del_rm HR6.out HS.out hown7 hturn7).congr (fun y _ => inS'_del q S (ns.take j) a Hb.out y)).mono (by omega)
        have t7 := turned_touch hturn7
        have Hrow7 : Hid (w7.ownsRow 0 3 1 (.slice (some ⟨qa, 0, none⟩) ns.length cap) ns.length (ints ns)) := row_keep Hrow6.out (fun y hy => t7.block y (row_lt Hrow6.out y hy) (by simp; exact (Hnb.out y hy).2.1))
        have hsz7 : w0.heap.size ≤ w7.heap.size := Nat.le_trans hsz6 t7.size
        have HTc7 : Hid (Touch [sb, mb, b, g] w0 w7) := HTc6.out.trans (t7.wide (fun x hx => by simp at hx; simp [hx]))
        clear t7 hown7 hturn7 HR6 Hrow6 hsz6 k2 hown hkey HS Ha HT Haj Hfl
        go_wp2
        go_roundw
        case rel => exact ⟨j + 1, by omega, by go_num, lv2, HR7, Hrow7, Hlv, hsz7, HTc7⟩
        case measure => simp [intOf]; omega
    · have hje : j = ns.length := by omega
      have Hsf : Hid (Rm w1 n1 wr sb b g mb lv2 c x sw ws th (ns.filter q) (n + ns.length) (inS' q S ns)) := by
        have := HR.out
        rw [hje, List.take_length] at this
        exact this
      have Hhl : Hid (Hld c x ws th) := HR.out.bq.ax.hl
      have hjn : ¬ (j : Int) < (ns.length : Int) := by omega
      clear HR
      go_wp2
      clear hjn hje hjl hj
      go_loopw [36] (fun v36 wr => ∃ j : Nat, j ≤ ns.length ∧ v36 = .int .i64 j ∧ ∃ ws', Hid (Rm w1 n1 wr sb b g mb lv2 c x sw ws' (mk_ (inS' q S ns) (ns.take j) th) (ns.filter q) (n + ns.length) (inS' q S ns)) ∧ Hid (wr.ownsRow 0 3 1 (.slice av ns.length cap) ns.length (ints ns)) ∧ Hid (Touch [sb, mb, b, g] w0 wr)) (fun v36 _ => ns.length - (intOf v36).toNat)
      case atStart => exact ⟨0, Nat.zero_le _, rfl, ws, (by
        show Hid (Rm _ _ _ _ _ _ _ _ _ _ _ _ _ _ _ _)
        rw [List.take_zero, mk_nil]
        exact Hsf), Hrow, HTc⟩
      case round =>
        obtain ⟨j, hj, rfl, ws2, HR, Hrow2, HTc2⟩ := hrel
        clear Hsf Hrow HTc
        by_cases hjl : j < ns.length
        · have haj : ns[j]? = some (ns[j]'hjl) := List.getElem?_eq_getElem hjl
          generalize ns[j]'hjl = a at haj
          have ham := List.mem_of_getElem? haj
          obtain ⟨T, hT, hTa⟩ := HW.out a ham
          obtain ⟨qa, ea, ca⟩ : ∃ qa, av = some ⟨qa, 0, none⟩ ∧ wr.cell? ⟨qa, j, none⟩ = some (.int .i64 a) := by
            obtain ⟨a0, cp, h1, -, h3⟩ := row_at Hrow2.out (by decide)
            simp at h1
            obtain ⟨y, h4, -, h5⟩ := h3 j (.int .i64 a) (by rw [List.getElem?_map, haj]; rfl)
            exact ⟨y, by rw [h1.1, h4], h5⟩
          subst ea
          have htk : ns.take (j + 1) = ns.take j ++ [a] := by rw [List.take_add_one, haj]; rfl
          obtain ⟨i, hi⟩ := List.getElem?_of_mem hT
          have hU : (mk_ (inS' q S ns) (ns.take j) th)[i]? = some (if T.at_ ∈ ns.take j then { T with h := inS' q S ns T.at_ } else T) := by rw [mk_at, hi]; rfl
          generalize hUe : (if T.at_ ∈ ns.take j then { T with h := inS' q S ns T.at_ } else T) = U at hU
          have hUa : U.at_ = a := by rw [← hUe, ← hTa]; split <;> rfl
          have hmk := sMark_any HR.out i U hU
          have hset : (mk_ (inS' q S ns) (ns.take j) th).set i { U with h := inS' q S ns U.at_ } = mk_ (inS' q S ns) (ns.take (j + 1)) th := by
            have := mk_snoc Hhl.out (inS' q S ns) (ns.take j) i T U hi hU
            rw [hTa] at this
            rw [htk, ← this, hUa]
          rw [hset, hUa] at hmk
          have hjI : (j : Int) < (ns.length : Int) := by omega
          clear hset htk hi hU hUe hUa hT hTa ham haj HR
          go_wp2_with fail
          refine hmk.mono ?_
          rintro e w7 ⟨rfl, t7, ws7, R7⟩
          have HR7 : Hid (Rm w1 n1 w7 sb b g mb lv2 c x sw ws7 (mk_ (inS' q S ns) (ns.take (j + 1)) th) (ns.filter q) (n + ns.length) (inS' q S ns)) := R7
          have Hrow7 : Hid (w7.ownsRow 0 3 1 (.slice (some ⟨qa, 0, none⟩) ns.length cap) ns.length (ints ns)) := row_keep Hrow2.out (fun y hy => t7.block y (row_lt Hrow2.out y hy) (by
            have h1 := Hnb.out y hy
            simp only [List.mem_cons, List.not_mem_nil, or_false, not_or]
            exact ⟨h1.2.2.1, h1.2.2.2⟩))
          have HTc7 : Hid (Touch [sb, mb, b, g] w0 w7) := HTc2.out.trans (t7.wide (fun x hx => by simp at hx; rcases hx with h | h <;> simp [h]))
          clear hmk R7 t7 Hrow2 ca
          go_wp2
          go_roundw
          case rel => exact ⟨j + 1, by omega, by go_num, ws7, HR7, Hrow7, HTc7⟩
          case measure => simp [intOf]; omega
        · have hje : j = ns.length := by omega
          have Hsf : Hid (Rm w1 n1 wr sb b g mb lv2 c x sw ws2 (mk_ (inS' q S ns) ns th) (ns.filter q) (n + ns.length) (inS' q S ns)) := by
            have := HR.out
            rw [hje, List.take_length] at this
            exact this
          have hjn : ¬ (j : Int) < (ns.length : Int) := by omega
          clear HR
          go_wp2
          go_end0
          exact ⟨rfl, HT0.out.trans HTc2.out, lv2, (fun y hy => by have := Hlv.out y hy; omega), ws2, Hsf.out⟩

set_option maxHeartbeats 8000000 in
theorem prune_full (H : Rm w1 n1 w sb b g mb lv c x sw ws th l n S) (mv : Value) (more : List Int) (hm : Lrd w.heap.size w mv .i64 more) (hls : ∀ a, a ∈ l → ∃ T, T ∈ th ∧ T.at_ = a) (hms : ∀ a, a ∈ more → ∃ T, T ∈ th ∧ T.at_ = a) (hl : l.length ≤ 10000) (hml : more.length ≤ 10000) (hn : n ≤ 100000) :
    Calls Tryd.prog 18 #[.pointer (some ⟨sb, 0, none⟩), mv] w fun e w' => e = .returned (.tuple #[]) ∧ Touch [sb, mb, b, g] w w' ∧ ∃ lv' ws' n', (∀ q, lv'.ownBlock = some q → w.heap.size ≤ q) ∧ Rm w1 n1 w' sb b g mb lv' c x sw ws' (mk_ (inS' (hta c sw th) S (ded (l ++ more))) (ded (l ++ more)) th) ((ded (l ++ more)).filter (hta c sw th)) n' (inS' (hta c sw th) S (ded (l ++ more))) ∧ n' ≤ n + 20000 := by
  have k1 : w.cell? ⟨sb, 1, none⟩ = some lv := H.rs.cell 1
  have hin : ∀ a, a ∈ l ++ more → InI a := fun a ha => by
    obtain ⟨T, h1, h2⟩ : ∃ T, T ∈ th ∧ T.at_ = a := by
      rcases List.mem_append.1 ha with h | h
      · exact hls a h
      · exact hms a h
    have := H.bq.ax.pos h1
    rw [← h2]
    unfold InI
    omega
  have l1 : Below w.heap.size w (w.alloc (.cells #[lv, mv] 42)) := Below.alloc (Below.refl _ _) (Nat.le_refl _) _
  have hc := concat_any w.heap.size 2 (two lv mv) (two l more) (w.alloc (.cells #[lv, mv] 42)) (fun k hk => by
    have e := cell_of_row _ _ k _ _ _ (heap_alloc_new w (.cells #[lv, mv] 42 (0, 0)))
    rw [e]
    match k, hk with
    | 0, _ => rfl
    | 1, _ => rfl) (fun k hk => by
    match k, hk with
    | 0, _ => exact ((Lrd.of_row H.rs.row).below l1).mono l1.size
    | 1, _ => exact (hm.below l1).mono l1.size) (fun k hk => by
    match k, hk with
    | 0, _ => show l.length ≤ _; omega
    | 1, _ => show more.length ≤ _; omega)
  rw [upto_two] at hc
  have hlen2 : (l ++ more).length ≤ 20000 := by simp; omega
  have hth2 : ∀ a, a ∈ ded (l ++ more) → ∃ T, T ∈ th ∧ T.at_ = a := fun a ha => by
    rcases List.mem_append.1 ((mem_ded _ a).1 ha) with h | h
    · exact hls a h
    · exact hms a h
  obtain ⟨xs, hxs⟩ : ∃ xs, xs = l ++ more := ⟨_, rfl⟩
  rw [← hxs] at hc hin hlen2 hth2 ⊢
  clear hxs
  have HR : Hid (Rm w1 n1 w sb b g mb lv c x sw ws th l n S) := H
  have Hin : Hid (∀ a, a ∈ xs → InI a) := hin
  have Hth : Hid (∀ a, a ∈ ded xs → ∃ T, T ∈ th ∧ T.at_ = a) := hth2
  have Hlen : Hid (xs.length ≤ 20000) := hlen2
  obtain ⟨a1, n2, c1, rfl⟩ := row_slice H.rs.row
  obtain ⟨a2, c2, rfl, -, -⟩ := hm
  clear H hin hls hms hlen2 hth2
  go_enter Tryd.func18, Tryd.ntmps18
  go_wp2_with fail
  refine hc.mono ?_
  rintro e w3 ⟨v3, rfl, h3, l3⟩
  have l3' := l1.trans (l3.mono l1.size)
  have ho := once_any v3 xs w3 (Lrd.of_row h3) Hin.out (by have := Hlen.out; omega)
  obtain ⟨a3, c3, rfl⟩ := own_sl h3
  clear hc k1 l1 l3 h3
  go_wp2_with fail
  refine ho.mono ?_
  rintro e w4 ⟨v4, rfl, h4, l4⟩
  have l4' := l3'.trans (l4.mono l3'.size)
  have hr := renew_full (HR.out.below l4') v4 (ded xs) h4 Hth.out (by have := Hlen.out; have := ded_len xs; omega) (by omega)
  obtain ⟨a4, c4, rfl⟩ := own_sl h4
  have HL4 : Hid (Touch [sb, mb, b, g] w w4) := Touch.of_below l4' _
  clear ho l3' l4 h4 l4'
  go_wp2_with fail
  refine hr.mono ?_
  rintro e w5 ⟨rfl, t5, lv5, ws5, o5, R5⟩
  have Ho5 : Hid (∀ q, lv5.ownBlock = some q → w.heap.size ≤ q) := fun y hy => Nat.le_trans HL4.out.size (o5 y hy)
  have HT5 : Hid (Touch [sb, mb, b, g] w w5) := HL4.out.trans t5
  have HR5 : Hid (Rm w1 n1 w5 sb b g mb lv5 c x sw ws5 (mk_ (inS' (hta c sw th) S (ded xs)) (ded xs) th) ((ded xs).filter (hta c sw th)) (n + (ded xs).length) (inS' (hta c sw th) S (ded xs))) := R5
  have Hd : Hid ((ded xs).length ≤ 20000) := by
    have := Hlen.out
    have := ded_len xs
    show _ ≤ _
    omega
  clear hr R5 t5 o5
  go_wp2
  go_end0
  exact ⟨rfl, HT5.out, lv5, ws5, _, Ho5.out, HR5.out, by have := Hd.out; omega⟩
end

end Go.Proofs.YtfihjmoaibmllaaDoor

