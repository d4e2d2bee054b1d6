/-
  The Set: holdsYoung, add, mark.
-/
import Derived.Test.YtfihjmoaibmllaaDoorY12
set_option linter.unusedVariables false
set_option maxRecDepth 20000
namespace Go.Proofs.YtfihjmoaibmllaaDoor
open Go.RowKit Go.Shelf

/-- Is it the address of a young one? -/
def yg (c : Cfg) (sw : Bool) (z : Int) : Bool := decide (spc c z = 1 ∨ spc c z = if sw = true then 3 else 2)
/-- Does the thing hold a young one? -/
def hyT (c : Cfg) (sw : Bool) (T : Tng) : Bool := T.ps.any (yg c sw)

/-- An arena, its Set. -/
structure Rm (w1 : World) (n1 : Nat) (w : World) (sb b g mb : Nat) (lv : Value) (c : Cfg) (x : Tps) (sw : Bool) (ws : Nat → Int) (th : List Tng) (l : List Int) (n : Nat) (S : Int → Bool) : Prop where
  bq : Bq w1 n1 w b g c x sw ws th
  rs : Rs w sb b lv l mb n S
  ls : n1 ≤ sb
  lm : n1 ≤ mb
  lv_ : ∀ q, lv.ownBlock = some q → n1 ≤ q
  hn : n1 ≤ w1.heap.size

section
variable {w1 w w' : World} {n1 sb b g mb n : Nat} {lv : Value} {c : Cfg} {x : Tps} {sw : Bool} {ws : Nat → Int} {th : List Tng} {l : List Int} {S : Int → Bool}

theorem Rm.below (H : Rm w1 n1 w sb b g mb lv c x sw ws th l n S) (l0 : Below w.heap.size w w') : Rm w1 n1 w' sb b g mb lv c x sw ws th l n S :=
  ⟨H.bq.below H.hn l0, H.rs.below l0, H.ls, H.lm, H.lv_, H.hn⟩

/-- The arena alone is written. -/
theorem Rm.next {x' : Tps} {sw' : Bool} {ws' : Nat → Int} {th' : List Tng} (H : Rm w1 n1 w sb b g mb lv c x sw ws th l n S) (t : Touch [b, g] w w') (hA : Ar w' b g c x' sw' ws') (hH : Hld c x' ws' th') : Rm w1 n1 w' sb b g mb lv c x' sw' ws' th' l n S :=
  ⟨H.bq.next H.hn t hA hH, H.rs.arena H.bq.ax.ar t, H.ls, H.lm, H.lv_, H.hn⟩

/-- The Set alone is written. -/
theorem Rm.set {lv' : Value} {l' : List Int} {n' : Nat} {S' : Int → Bool} {F : List Nat} (H : Rm w1 n1 w sb b g mb lv c x sw ws th l n S) (t : Touch F w w') (hF : ∀ q, q ∈ F → q = sb ∨ q = mb ∨ lv.ownBlock = some q) (hr : Rs w' sb b lv' l' mb n' S') (hv : ∀ q, lv'.ownBlock = some q → n1 ≤ q) : Rm w1 n1 w' sb b g mb lv' c x sw ws th l' n' S' := by
  obtain ⟨⟨gs, hgs⟩, bs, hbs⟩ := H.bq.ax.ar.rowTy
  have lo : ∀ q, q ∈ F → n1 ≤ q := fun q hq => by
    rcases hF q hq with rfl | rfl | h
    · exact H.ls
    · exact H.lm
    · exact H.lv_ q h
  have nb : ∀ y cs t, w.heap[y]? = some (.cells cs t (0, 0)) → t ≠ 82 → t ≠ 3 → y ∉ F := fun y cs t hy h1 h2 hm => by
    rcases hF y hm with e | e | e
    · exact heap_ty_ne hy H.rs.own h1 e
    · exact H.rs.map.ne hy e
    · exact row_ne hy H.rs.row h2 e.symm
  have t0 := H.bq.t0
  have t1 := H.bq.t1
  exact ⟨⟨H.bq.ax.touch t (nb _ _ _ hbs (by decide) (by decide)) (nb _ _ _ hgs (by decide) (by decide)) (fun hm => by have := lo _ hm; omega) (fun hm => by have := lo _ hm; omega), H.bq.be.trans (t.below (Nat.le_trans H.hn H.bq.be.size) lo), H.bq.lb, H.bq.lg, H.bq.t0, H.bq.t1⟩, hr, H.ls, H.lm, hv, H.hn⟩

set_option maxHeartbeats 4000000 in
theorem holdsYoung_any (H : Rm w1 n1 w sb b g mb lv c x sw ws th l n S) {T : Tng} (hT : T ∈ th) : Calls Tryd.prog 41 #[.pointer (some ⟨sb, 0, none⟩), .int .i64 T.at_] w fun e w' => e = .returned (.bool (hyT c sw T)) ∧ Below w.heap.size w w' := by
  have k0 : w.cell? ⟨sb, 0, none⟩ = some (.pointer (some ⟨b, 0, none⟩)) := H.rs.cell 0
  have hh := H.bq.ax.head hT
  have HR : Hid (Rm w1 n1 w sb b g mb lv c x sw ws th l n S) := H
  have hpn := H.bq.ax.hl.psn T hT
  have hps := H.bq.ax.pos hT
  have HT : Hid (T ∈ th) := hT
  have HP : Hid ((T.ps.length : Int) = T.p ∧ T.p ≤ 4095) := ⟨hpn, hps.2.2.2.2.1⟩
  have hp0 : 0 ≤ T.p ∧ T.p ≤ 4095 := ⟨hps.2.2.1, hps.2.2.2.2.1⟩
  clear H hT hpn hps
  go_enter Tryd.func41, Tryd.ntmps41
  go_wp2_with fail
  refine hh.mono ?_
  rintro e w2 ⟨rfl, l2⟩
  clear hh k0
  go_upto_region 2 with fail
  have l3 := Below.alloc l2 l2.size (.cells (hcells T.s T.k T.p T.r T.a T.t T.h) 48)
  have hy : (w2.alloc (.cells (hcells T.s T.k T.p T.r T.a T.t T.h) 48)).cell? ⟨w2.heap.size, 2, none⟩ = some (.int .i64 T.p) := cell_of_row _ _ 2 _ _ _ (heap_alloc_new w2 (.cells (hcells T.s T.k T.p T.r T.a T.t T.h) 48 (0, 0)))
  generalize w2.alloc (.cells (hcells T.s T.k T.p T.r T.a T.t T.h) 48) = w3 at *
  generalize w2.heap.size = R at *
  clear l2
  go_wp2
  clear hy
  go_loopw [21] (fun v21 wr => ∃ k : Nat, (k : Int) ≤ T.p ∧ v21 = .int .i64 k ∧ Hid (∀ f z, f < k → T.ps[f]? = some z → yg c sw z = false) ∧ Below w.heap.size w wr) (fun v21 _ => T.p.toNat - (intOf v21).toNat)
  case atStart => exact ⟨0, by omega, rfl, (fun f z hf => by omega : ∀ f z, f < 0 → T.ps[f]? = some z → yg c sw z = false), l3⟩
  case round =>
    obtain ⟨k, hk, rfl, HY, lr⟩ := hrel
    clear l3
    have HR2 : Hid (Rm w1 n1 wr sb b g mb lv c x sw ws th l n S) := HR.out.below lr
    by_cases hkl : (k : Int) < T.p
    · have hkl2 : k < T.ps.length := by have := HP.out; omega
      have hzk : T.ps[k]? = some (T.ps[k]'hkl2) := List.getElem?_eq_getElem hkl2
      generalize T.ps[k]'hkl2 = z at hzk
      have Hzk : Hid (T.ps[k]? = some z) := hzk
      have k0 : wr.cell? ⟨sb, 0, none⟩ = some (.pointer (some ⟨b, 0, none⟩)) := HR2.out.rs.cell 0
      have hp := HR2.out.bq.ax.ptr HT.out k z hzk
      clear hzk hkl2
      go_wp2_with fail
      refine hp.mono ?_
      rintro e w5 ⟨rfl, l5⟩
      have HR5 : Hid (Rm w1 n1 w5 sb b g mb lv c x sw ws th l n S) := HR2.out.below l5
      have lr5 := lr.trans (l5.mono lr.size)
      clear hp k0 HR2 l5 lr
      have k0 : w5.cell? ⟨sb, 0, none⟩ = some (.pointer (some ⟨b, 0, none⟩)) := HR5.out.rs.cell 0
      have hyo := young_any b g c x sw ws z w5 HR5.out.bq.ax.ar
      have hyo' : Calls Tryd.prog 50 #[.pointer (some ⟨b, 0, none⟩), .int .i64 z] w5 fun e w' => e = .returned (.bool (yg c sw z)) ∧ Below w5.heap.size w5 w' := hyo
      clear hyo
      cases hyz : yg c sw z
      · rw [hyz] at hyo'
        have HY2 : Hid (∀ f z, f < k + 1 → T.ps[f]? = some z → yg c sw z = false) := fun f y hf hy => by
          by_cases e : f = k
          · subst e
            rw [Hzk.out] at hy
            simp at hy
            rw [← hy]
            exact hyz
          · exact HY.out f y (by omega) hy
        clear hyz HY Hzk
        go_wp2_with fail
        refine hyo'.mono ?_
        rintro e w6 ⟨rfl, l6⟩
        have lr6 := lr5.trans (l6.mono lr5.size)
        clear hyo' k0 HR5 l6 lr5
        go_wp2
        go_roundw
        case rel => exact ⟨k + 1, by omega, by go_num, HY2, lr6⟩
        case measure => simp [intOf]; omega
      · rw [hyz] at hyo'
        have HE : Hid (hyT c sw T = true) := by
          show hyT c sw T = true
          unfold hyT
          rw [List.any_eq_true]
          exact ⟨z, List.mem_of_getElem? Hzk.out, hyz⟩
        clear hyz HY Hzk
        go_wp2_with fail
        refine hyo'.mono ?_
        rintro e w6 ⟨rfl, l6⟩
        have lr6 := lr5.trans (l6.mono lr5.size)
        clear hyo' k0 HR5 l6 lr5
        go_wp2
        go_ret
        exact ⟨by rw [HE.out]; rfl, lr6⟩
    · have HE : Hid (hyT c sw T = false) := by
        show hyT c sw T = false
        unfold hyT
        rw [List.any_eq_false]
        intro z hz
        obtain ⟨f, hf⟩ := List.getElem?_of_mem hz
        have := (List.getElem?_eq_some_iff.1 hf).1
        rw [HY.out f z (by have := HP.out; omega) hf]
        simp
      clear HY
      go_wp2
      go_ret
      exact ⟨by rw [HE.out]; rfl, lr⟩

set_option maxHeartbeats 2000000 in
theorem sAdd_any (H : Rm w1 n1 w sb b g mb lv c x sw ws th l n S) (a : Int) (ha : InI a) (hl : l.length ≤ 1000000) (hn : n ≤ 1000000) : Calls Tryd.prog 51 #[.pointer (some ⟨sb, 0, none⟩), .int .i64 a] w fun e w' => e = .returned (.tuple #[]) ∧ ∃ lv', Rm w1 n1 w' sb b g mb lv' c x sw ws th (l ++ [a]) (n + 1) (fun y => decide (y = a) || S y) ∧ Touch (sb :: mb :: lv.ownBlock.toList) w w' ∧ (lv'.ownBlock = lv.ownBlock ∨ ∃ y, lv'.ownBlock = some y ∧ w.heap.size ≤ y) := by
  have k1 : w.cell? ⟨sb, 1, none⟩ = some lv := H.rs.cell 1
  obtain ⟨i0, hi0, hz0, hz1, hz2⟩ := info_parts Tryd.infoInt
  have HI : Hid (Tryd.prog.info? 3 = some i0 ∧ i0.zero = some (.int .i64 0) ∧ i0.size = 1 ∧ i0.bytes = 8) := ⟨hi0, hz0, hz1, hz2⟩
  have HR : Hid (Rm w1 n1 w sb b g mb lv c x sw ws th l n S) := H
  have Hrow : Hid (w.ownsRow 0 3 1 lv l.length (ints l)) := H.rs.row
  have hkey := key_of ha
  have Ha : Hid (InI a) := ha
  obtain ⟨ad, nn, cap, rfl⟩ := row_slice H.rs.row
  clear H hi0 hz0 hz1 hz2 ha
  go_enter Tryd.func51, Tryd.ntmps51
  go_wp2_with (at_builtin; refine wpList_append_own_at _ rfl _ _ 42 rfl 0 3 i0 (.int .i64 0) 1 8 Tryd.underlying42 HI.out.1 HI.out.2.1 HI.out.2.2.1 HI.out.2.2.2 rfl (by decide) _ _ _ rfl (Hrow.out.alloc _) ⟨w.heap.size, 0, none⟩ 1 1 [.int .i64 a] rfl rfl (cell_one_new _ _ _) (by simp [Value.oneCell']) (by simp [maxLen]; omega) (by omega) (by omega) ?_)
  intro v' w2 hown' hgrow _ hat
  have t2 : Touch (Value.slice ad nn cap).ownBlock.toList w w2 := ⟨hgrow.os, hgrow.tape, hgrow.output, by have := hgrow.size; simp at this; omega, fun k hk hn => (hgrow.block k (by simp; omega) (fun e => hn (by rw [Option.mem_toList]; exact e.symm))).trans (Below.heap_alloc _ _ _ hk)⟩
  have hs2 : w2.heap[sb]? = w.heap[sb]? := t2.block sb HR.out.rs.lt (by
    intro hm
    rw [Option.mem_toList] at hm
    exact row_ne HR.out.rs.own HR.out.rs.row (by decide) hm.symm)
  have c1 : w2.cell? ⟨sb, 1, none⟩ = some (.slice ad nn cap) := (World.cell?_of_block (w := w) hs2).trans k1
  have f1 : w2.frozen? ⟨sb, 1, none⟩ = false := by
    unfold World.frozen?
    simp only [hs2, HR.out.rs.own]
    simp
  have hm2 : w2.heap[mb]? = w.heap[mb]? := t2.block mb HR.out.rs.map.lt (by
    intro hm
    rw [Option.mem_toList] at hm
    obtain ⟨cs, hc⟩ : ∃ cs, w.heap[mb]? = some (.cells cs 3 (0, 0)) := by
      rcases HR.out.rs.row.2 with ⟨e, _⟩ | ⟨q, cap, cur, e, _, hq, _⟩
      · rw [e] at hm; simp [Value.ownBlock] at hm
      · rw [e] at hm
        simp [Value.ownBlock] at hm
        subst hm
        exact ⟨_, hq⟩
    exact HR.out.rs.map.ne hc rfl)
  have Hat : Hid (v'.ownBlock = (Value.slice ad nn cap).ownBlock ∨ v'.ownBlock = some (w.heap.size + 1)) := by
    rcases hat with h | h
    · exact .inl h
    · exact .inr (h.trans (by simp))
  have hlt2 : w.heap.size ≤ w2.heap.size := t2.size
  have Hr2 : Hid (w2.ownsRow 0 3 1 v' (l ++ [a]).length (ints (l ++ [a]))) := by
    show w2.ownsRow 0 3 1 v' (l ++ [a]).length (ints (l ++ [a]))
    have := hown'
    simpa [ints] using this
  have Hs2 : Hid (w2.heap[sb]? = w.heap[sb]?) := hs2
  have Hm2 : Hid (w2.heap[mb]? = w.heap[mb]?) := hm2
  have HT2 : Hid (Touch (Value.slice ad nn cap).ownBlock.toList w w2) := t2
  obtain ⟨a3, c3, n3, hv3⟩ := row_slice hown'
  subst hv3
  clear hown' hgrow hat k1 hs2 hm2 t2
  go_upto_region 1 with fail
  obtain ⟨w3, hw3⟩ : ∃ w3, w3 = w2.setCell ⟨sb, 1, none⟩ (.slice a3 c3 n3) := ⟨_, rfl⟩
  have hb3 : ∀ k, k ≠ sb → w3.heap[k]? = w2.heap[k]? := fun k hk => by rw [hw3]; exact Below.heap_setCell _ _ _ _ hk
  have hsb3 : w3.heap[sb]? = some (.cells #[.pointer (some ⟨b, 0, none⟩), .slice a3 c3 n3, .map (some mb)] 82 (0, 0)) := by
    rw [hw3]
    simp [World.setCell, Array.getElem?_modify, Hs2.out, HR.out.rs.own]
  have hsz3 : w3.heap.size = w2.heap.size := by rw [hw3]; simp [World.setCell]
  have hne : ∀ q, (Value.slice a3 c3 n3).ownBlock = some q → q ≠ sb := fun q hq e => by
    subst e
    have h1 : w2.heap[q]? = some (.cells #[.pointer (some ⟨b, 0, none⟩), .slice ad nn cap, .map (some mb)] 82 (0, 0)) := Hs2.out.trans HR.out.rs.own
    exact row_ne h1 Hr2.out (by decide) hq.symm
  have hmne : mb ≠ sb := fun e => HR.out.rs.map.ne HR.out.rs.own e.symm
  have r3 : Rs w3 sb b (.slice a3 c3 n3) (l ++ [a]) mb n S := ⟨hsb3, row_keep Hr2.out (fun q hq => hb3 q (hne q hq)), HR.out.rs.map.keep ((hb3 mb hmne).trans Hm2.out)⟩
  have HW3 : Hid (w3.os = w.os ∧ w3.tape = w.tape ∧ w3.output = w.output) := by
    rw [hw3]
    exact ⟨HT2.out.os, HT2.out.tape, HT2.out.output⟩
  rw [← hw3]
  have k2 : w3.cell? ⟨sb, 2, none⟩ = some (.map (some mb)) := r3.cell 2
  obtain ⟨D, hown3, hS3⟩ := r3.map
  have HR3 : Hid (Rs w3 sb b (.slice a3 c3 n3) (l ++ [a]) mb n S) := r3
  have HS3 : Hid (∀ a, InI a → Maps.has D (.int .i64 a) = S a) := hS3
  have Hb3 : Hid (∀ k, k ≠ sb → w3.heap[k]? = w2.heap[k]?) := hb3
  clear hw3 hsb3 r3 hS3 c1 f1 hb3
  go_wp2_with (at_mapUpdate; refine wpList_mapUpdate_in _ rfl _ _ _ 80 rfl 3 115 Tryd.keyed Tryd.underlying80 unitElem mb n D rfl hown3 (by unfold maxLen; omega) _ _ _ rfl rfl hkey (.agg []) [] unitElem_mk ?_; intro w4 hown4 hturn4)
  go_end0
  have t4 := turned_touch hturn4
  refine ⟨rfl, .slice a3 c3 n3, ?_⟩
  have T4 : Touch (sb :: mb :: (Value.slice ad nn cap).ownBlock.toList) w w4 := by
    refine ⟨t4.os.trans HW3.out.1, t4.tape.trans HW3.out.2.1, t4.output.trans HW3.out.2.2, by have := t4.size; omega, fun k hk hn => ?_⟩
    simp only [List.mem_cons, not_or] at hn
    rw [t4.block k (by omega) (by simp; exact hn.2.1), Hb3.out k hn.1, HT2.out.block k hk hn.2.2]
  have hR4 : Rs w4 sb b (.slice a3 c3 n3) (l ++ [a]) mb (n + 1) (fun y => decide (y = a) || S y) := by
    refine ⟨?_, ?_, ?_⟩
    · rw [t4.block sb HR3.out.lt (by simp; exact fun e => hmne e.symm)]
      exact HR3.out.own
    · refine row_keep HR3.out.row (fun q hq => t4.block q (row_lt HR3.out.row q hq) ?_)
      simp
      intro e
      subst e
      rcases HR3.out.row.2 with ⟨e, _⟩ | ⟨y, cp, cur, e, _, hy, _⟩
      · rw [e] at hq; simp [Value.ownBlock] at hq
      · rw [e] at hq
        simp [Value.ownBlock] at hq
        subst hq
        exact HR3.out.map.ne hy rfl
    · exact Ms.put Ha.out hown3 HS3.out hown4
  refine ⟨HR.out.set T4 (fun q hq => ?_) hR4 (fun q hq => ?_), T4, ?_⟩
  · simp only [List.mem_cons, Option.mem_toList] at hq
    exact hq
  · rcases Hat.out with h | h
    · exact HR.out.lv_ q (by rw [← h]; exact hq)
    · rw [h] at hq
      simp at hq
      have := HR.out.hn
      have := HR.out.bq.be.size
      omega
  · rcases Hat.out with h | h
    · exact .inl h
    · exact .inr ⟨_, h, by omega⟩

set_option maxHeartbeats 2000000 in
/-- Held is written. -/
theorem sMark_any (H : Rm w1 n1 w sb b g mb lv c x sw ws th l n S) (i : Nat) (T : Tng) (hTi : th[i]? = some T) : Calls Tryd.prog 52 #[.pointer (some ⟨sb, 0, none⟩), .int .i64 T.at_] w fun e w' => e = .returned (.tuple #[]) ∧ Touch [b, g] w w' ∧ ∃ ws', Rm w1 n1 w' sb b g mb lv c x sw ws' (th.set i { T with h := S T.at_ }) l n S := by
  have hT := List.mem_of_getElem? hTi
  have k0 : w.cell? ⟨sb, 0, none⟩ = some (.pointer (some ⟨b, 0, none⟩)) := H.rs.cell 0
  have hh := H.bq.ax.head hT
  have HR : Hid (Rm w1 n1 w sb b g mb lv c x sw ws th l n S) := H
  have hps := H.bq.ax.pos hT
  have Ha : Hid (InI T.at_) := by show InI T.at_; unfold InI; omega
  have HT : Hid (th[i]? = some T) := hTi
  clear H hT hTi hps
  go_enter Tryd.func52, Tryd.ntmps52
  go_wp2_with fail
  refine hh.mono ?_
  rintro e w2 ⟨rfl, l2⟩
  clear hh k0
  go_upto_region 1 with fail
  have l3 := Below.alloc l2 l2.size (.cells (hcells T.s T.k T.p T.r T.a T.t T.h) 48)
  have hX := Box.new w2 48 (.int .u64 T.s) (.int .i64 T.k) (.int .i64 T.p) (.int .i64 T.r) (.int .i64 T.a) (.int .i64 T.t) (.bool T.h)
  have hRge : w.heap.size ≤ w2.heap.size := l2.size
  generalize w2.alloc (.cells (hcells T.s T.k T.p T.r T.a T.t T.h) 48) = w3 at *
  generalize w2.heap.size = R at *
  have HR3 : Hid (Rm w1 n1 w3 sb b g mb lv c x sw ws th l n S) := HR.out.below l3
  have hh := sHas_any HR3.out.rs T.at_ Ha.out
  clear l2
  obtain ⟨d, hd⟩ : ∃ d, d = S T.at_ := ⟨_, rfl⟩
  rw [← hd] at hh
  have Hd : Hid (d = S T.at_) := hd
  clear hd
  go_wp2_with fail
  refine hh.mono ?_
  rintro e w4 ⟨rfl, l4⟩
  have hX4 := hX.keep l4 hX.lt
  have b4 := l3.trans (l4.mono l3.size)
  have l5 : Below w.heap.size w (w4.setCell ⟨R, 6, none⟩ (.bool d)) := Below.setCell (p := ⟨R, 6, none⟩) b4 hRge _
  have HR5 : Hid (Rm w1 n1 (w4.setCell ⟨R, 6, none⟩ (.bool d)) sb b g mb lv c x sw ws th l n S) := HR.out.below l5
  have L5 : Hid (Below w.heap.size w (w4.setCell ⟨R, 6, none⟩ (.bool d))) := l5
  obtain ⟨x0, x1, x2, x3, x4, x5, x6, f0, f1, f2, f3, f4, f5, f6⟩ := hX4
  have hne : ∀ j : Nat, j ≠ 6 → (w4.setCell ⟨R, 6, none⟩ (.bool d)).cell? ⟨R, j, none⟩ = w4.cell? ⟨R, j, none⟩ := fun j hj => by
    refine World.cell?_setCell_other _ _ _ _ (fun e => hj ?_)
    injection e with _ e2
    exact e2.symm
  have y0 := (hne 0 (by decide)).trans x0
  have y1 := (hne 1 (by decide)).trans x1
  have y2 := (hne 2 (by decide)).trans x2
  have y3 := (hne 3 (by decide)).trans x3
  have y4 := (hne 4 (by decide)).trans x4
  have y5 := (hne 5 (by decide)).trans x5
  have y6 : (w4.setCell ⟨R, 6, none⟩ (.bool d)).cell? ⟨R, 6, none⟩ = some (.bool d) := World.cell?_setCell_same _ _ _ x6
  clear hne hh hX l3 l4 b4 HR3 x0 x1 x2 x3 x4 x5 f0 f1 f2 f3 f4 f5 l5
  go_upto_region 3 with fail
  clear x6 f6
  generalize w4.setCell ⟨R, 6, none⟩ (.bool d) = w5 at *
  have k0 : w5.cell? ⟨sb, 0, none⟩ = some (.pointer (some ⟨b, 0, none⟩)) := HR5.out.rs.cell 0
  have bd : Below w5.heap.size w5 w5.drew := below_drewN (Below.refl _ _) 1
  have HR6 : Hid (Rm w1 n1 w5.drew sb b g mb lv c x sw ws th l n S) := HR5.out.below bd
  have hc := HR6.out.bq.ax.setHead i T HT.out d
  have L6 : Hid (Touch [b, g] w w5.drew) := Touch.of_below (L5.out.trans (bd.mono L5.out.size)) _
  clear bd HR5 HR L5
  refine quiet_tail 6 mixed (by kernel_rfl) ?_
  simp only [List.take_succ_cons, List.take_zero, List.drop_succ_cons, List.drop_zero]
  repeat (go_big_quiet_step (fail))
  refine wpQuiet_nil ?_
  go_wp2_with fail
  refine hc.mono ?_
  rintro e w6 ⟨rfl, t6, ws6, A6, H6⟩
  have HR7 : Hid (Rm w1 n1 w6 sb b g mb lv c x sw ws6 (th.set i { T with h := d }) l n S) := HR6.out.next t6.one A6 H6
  clear hc k0 y0 y1 y2 y3 y4 y5 y6
  go_wp2
  go_end0
  exact ⟨rfl, L6.out.trans t6.one, ws6, by rw [← Hd.out]; exact HR7.out⟩
end

end Go.Proofs.YtfihjmoaibmllaaDoor
