/-
  Shortest paths: the program's roots. (Out of IG9.)
-/
import Derived.Test.YtckgcpoheodbcaaDoorLPB
import Derived.Test.YtckgcpoheodbcaaDoorPLy
import Derived.Test.YtckgcpoheodbcaaDoorPLy
import Derived.Lib.OwnBridge
set_option linter.unusedVariables false
set_option maxRecDepth 20000
namespace Go.Proofs.YtckgcpoheodbcaaDoor
open Go.RowKit Go.Shelf Go.Lib Go.Sort Go.Proofs.YtckgcpoheodbcaaDoor.Lp

theorem frd_two {n0 : Nat} {w : World} {v1 v2 : Value} {l1 l2 : List Int} (h1 : Lrd n0 w v1 .i64 l1) (h2 : Lrd n0 w v2 .i64 l2) (hn : n0 ≤ w.heap.size) :
    Frd (w.heap.size + 1) (w.alloc (.cells #[v1, v2] 24)) (.slice (some ⟨w.heap.size, 0, none⟩) 2 2) [(v1, l1), (v2, l2)] := by
  have hb : Below n0 w (w.alloc (.cells #[v1, v2] 24)) := Below.alloc (Below.refl _ _) hn _
  have hy := fun j => cell_of_row _ _ j _ _ _ (heap_alloc_new w (.cells #[v1, v2] 24 (0, 0)))
  refine ⟨_, _, rfl, fun i x hx => ?_⟩
  match i, hx with
  | 0, hx => cases hx; exact ⟨(h1.below hb).mono (by omega), _, _, rfl, Nat.lt_succ_self _, hy 0⟩
  | 1, hx => cases hx; exact ⟨(h2.below hb).mono (by omega), _, _, rfl, Nat.lt_succ_self _, hy 1⟩
  | i + 2, hx => cases hx

/-- What is below 1. -/
theorem below1_any (x : Int) (w : World) : Calls Tryd.prog 54 #[.int .i64 x] w fun e w' => e = .returned (.bool (decide (x < 1))) ∧ ∃ q, w' = w.drewN q := by
  go_enter Tryd.func54, Tryd.ntmps54
  go_wp2
  go_ret
  exact ⟨rfl, 0, rfl⟩

theorem below1_enters : ∀ args w, (callFunc 54 args).run Tryd.prog w = .ok (.enter 54 args) w := enters_of Tryd.func54 (by kernel_rfl) rfl

theorem touch_putRow17 {enc : Int → Value} {w : World} {g q : Nat} {d : Array Int} : Kg.Touch [g] w (Sort.putRow enc (Sort.ahead w q) g 0 d) :=
  ⟨rfl, rfl, rfl, by simp [Sort.putRow, Sort.mapBlock, Sort.ahead], fun k _ hn => by
    have : g ≠ k := fun e => hn (by simp [e])
    simp [Sort.putRow, Sort.mapBlock, Sort.ahead, Array.getElem?_modify, this]⟩

/-- slices.DeleteFunc of what is below 1, of a list of one's own. -/
theorem delF_any (base : Nat) (v : Value) (l : List Int) (w : World) (h : Il w base v l) (hl : l.length ≤ 1000000000000) :
    Calls Tryd.prog 53 #[v, .func (.func 54) #[] #[]] w fun e w' => ∃ v', e = .returned v' ∧ Il w' base v' (l.filter (fun z => !decide (z < 1))) ∧ Below base w w' := by
  rcases h.2 with ⟨rfl, h0⟩ | ⟨g, cap, cur, rfl, hb, hg, hn, hm, hcs, htk⟩
  · obtain rfl : l = [] := List.eq_nil_of_length_eq_zero h0
    have q := AnyE.slices_IndexFunc_empty (P := Tryd.prog) (ρ := Tryd.delFA_ren) { Tryd.delFA with } none 0 (.func (.func 54) #[] #[]) w
    have q : Calls Tryd.prog 68 #[.slice none 0 0, .func (.func 54) #[] #[]] w _ := q
    clear h
    go_enter Tryd.func53, Tryd.ntmps53
    go_wp2_with fail
    refine q.mono ?_
    rintro e w1 ⟨rfl, rfl⟩
    go_wp2
    go_ret
    exact ⟨_, rfl, World.ownsRow_nil _ _ _ _, Below.refl _ _⟩
  · obtain ⟨g', cap', hv, hb', hlt, hn', hm', _, hH⟩ := Lib.holds_of_ownsRow h (by simp)
    simp only [Value.slice.injEq, Option.some.injEq, Addr.mk.injEq, true_and, and_true] at hv
    obtain ⟨rfl, rfl⟩ := hv
    have q := AnyE.slices_DeleteFunc (P := Tryd.prog) (ρ := Tryd.delFA_ren) Tryd.delFA (Value.int .i64) (fun _ => rfl) (fun z => decide (z < 1)) 54 #[] below1_enters 0 Tryd.zeroValue3 g 0 cap l.toArray w (fun W x _ => below1_any x W) (fun n os dk x _ => below1_any x _) hH (by simp; omega) (by simpa using hn)
    simp only [List.size_toArray] at q
    have hfl : (l.filter (fun z => !decide (z < 1))).length ≤ l.length := List.length_filter_le _ _
    refine Calls.mono (show Calls Tryd.prog 53 _ _ _ from q) ?_
    rintro e w' ⟨rfl, q', rfl⟩
    have h2 := Lib.ownsRow_putRow (q := q') (k := (l.filter (fun z => !decide (z < 1))).length) (ys := l.filter (fun z => !decide (z < 1)) ++ List.replicate (l.length - (l.filter (fun z => !decide (z < 1))).length) 0) h (by simp; omega) hfl
    rw [List.take_left' rfl] at h2
    exact ⟨_, rfl, h2, touch_putRow17.below (Nat.le_trans hb (Nat.le_of_lt hlt)) (fun k hk => by rw [List.mem_singleton] at hk; rw [hk]; exact hb)⟩

set_option maxHeartbeats 4000000 in
/-- rootsOf. -/
theorem rootsOf_any (n0 : Nat) (w : World) (vo vs vh vr vq : Value) (os : List OL) (ts : List (Value × List (Value × List Int))) (g : Im.Gr) (hg : Grd n0 w vo vs vh vr vq os ts g) (hn : n0 ≤ w.heap.size) (hs : Sln ts) (hlen : (g.hs ++ g.qu).length + (slotsF g.slots).length ≤ 1000000000) :
    Calls Tryd.prog 34 #[.agg (gcs vo vs vh vr vq g.next)] w fun e w' => ∃ v, e = .returned v ∧ Il w' w.heap.size v (rw17 g 0) ∧ Below w.heap.size w w' := by
  obtain ⟨i0, hi0, hj0, hj1, hj2⟩ := info_parts Kg.Tryd.infoInt
  have HI : Hid (Tryd.prog.info? 3 = some i0 ∧ i0.zero = some (.int .i64 0) ∧ i0.size = 1 ∧ i0.bytes = 8) := ⟨hi0, hj0, hj1, hj2⟩
  clear hi0 hj0 hj1 hj2
  have l1 : Below w.heap.size w (w.alloc (.cells (gcs vo vs vh vr vq g.next) 27)) := Below.alloc (Below.refl _ _) (Nat.le_refl _) _
  have hy := fun j => cell_of_row _ _ j _ _ _ (heap_alloc_new w (.cells (gcs vo vs vh vr vq g.next) 27 (0, 0)))
  have y1 : (w.alloc (.cells (gcs vo vs vh vr vq g.next) 27)).cell? ⟨w.heap.size, 1, none⟩ = some vs := hy 1
  have y2 : (w.alloc (.cells (gcs vo vs vh vr vq g.next) 27)).cell? ⟨w.heap.size, 2, none⟩ = some vh := hy 2
  have y4 : (w.alloc (.cells (gcs vo vs vh vr vq g.next) 27)).cell? ⟨w.heap.size, 4, none⟩ = some vq := hy 4
  have hg1 := hg.below (l1.mono hn)
  have h3 := frd_two hg1.hs hg1.qu (Nat.le_trans hn l1.size)
  have Hg : Hid (Grd n0 w vo vs vh vr vq os ts g) := hg
  have Hs : Hid (Sln ts) := hs
  have hx := hg.sl
  obtain ⟨b, bcap, rfl, -⟩ := hx
  have hx := hg.hs
  obtain ⟨ah, hcap, rfl, -⟩ := hx
  have hx := hg.qu
  obtain ⟨aq, qcap, rfl, -⟩ := hx
  have htl := hs.t
  have Hes : Hid (g.slots = ts.map (fun t => t.2.map (·.2))) := hg.es
  have Hel : Hid ((g.hs ++ g.qu).length + (slotsF g.slots).length ≤ 1000000000) := hlen
  clear hg hy hs hg1 hlen
  generalize hw1 : w.alloc (.cells (gcs vo (.slice b ts.length bcap) (.slice ah g.hs.length hcap) vr (.slice aq g.qu.length qcap) g.next) 27) = w1 at *
  have e1 : w1.heap.size = w.heap.size + 1 := by rw [← hw1]; simp
  have Ht : Hid (fsum ([(Value.slice ah g.hs.length hcap, g.hs), (Value.slice aq g.qu.length qcap, g.qu)].map (·.2)) ≤ 1000000000000) := by
    have := Hel.out
    simp only [List.length_append] at this
    simp [fsum]
    show _ ≤ _
    omega
  have hcc := slConcat_any (w1.heap.size + 1) _ _ _ h3 (by simp) (by simp) Ht.out
  have l2 : Below w1.heap.size w1 (w1.alloc (.cells #[.slice ah g.hs.length hcap, .slice aq g.qu.length qcap] 24)) := Below.alloc (Below.refl _ _) (Nat.le_refl _) _
  clear h3 Ht
  go_enter Tryd.func34, Tryd.ntmps34
  rw [e1] at hcc
  go_wp2_with fail
  refine hcc.mono ?_
  rintro e w2 ⟨v2, rfl, b2, o2⟩
  obtain ⟨a2, c2, hv2⟩ := own_slI o2
  subst hv2
  have B2 : Below w1.heap.size w1 w2 := l2.trans (b2.mono l2.size)
  have Hb2 : Hid (Below w1.heap.size w1 w2) := B2
  have ef : flat [(Value.slice ah g.hs.length hcap, g.hs), (Value.slice aq g.qu.length qcap, g.qu)] = g.hs ++ g.qu := by simp [flat]
  rw [ef] at o2
  rw [ef]
  have Ho2 : Hid (w2.ownsRow w1.heap.size 3 1 (.slice a2 (g.hs ++ g.qu).length c2) (g.hs ++ g.qu).length (Kg.ints (g.hs ++ g.qu))) := Kg.row_base o2 (by simp)
  have z1 : w2.cell? ⟨w.heap.size, 1, none⟩ = some (.slice b ts.length bcap) := (B2.cell (p := ⟨w.heap.size, 1, none⟩) (by rw [e1]; exact Nat.lt_succ_self _)).trans y1
  clear hcc b2 o2 y1 y2 y4 ef B2
  generalize hE0 : g.hs ++ g.qu = E0 at *
  have HE0 : Hid (g.hs ++ g.qu = E0) := hE0
  clear hE0
  go_wp2
  go_loopw [3, 15] (fun v3 v17 wr => ∃ k : Nat, k ≤ ts.length ∧ v17 = .int .i64 k ∧ Hid (wr.ownsRow w1.heap.size 3 1 v3 (en E0 (g.slots.take k)).length (Kg.ints (en E0 (g.slots.take k)))) ∧ Hid (Below w1.heap.size w1 wr)) (fun _ v17 _ => ts.length - (intOf v17).toNat)
  case atStart => exact ⟨0, Nat.zero_le _, rfl, by have h9 : en E0 (g.slots.take 0) = E0 := (by simp [en, slotsF]); show w2.ownsRow _ _ _ _ _ _; rw [h9]; exact Ho2.out, Hb2⟩
  case round =>
    obtain ⟨k, hk, rfl, Hr, Hb⟩ := hrel
    obtain ⟨a3, c3, hv3⟩ := own_slI Hr.out
    subst hv3
    have BW : Hid (Below w.heap.size w wr) := l1.trans (Hb.out.mono l1.size)
    by_cases hkl : k < ts.length
    · have hki : (k : Int) < (ts.length : Int) := by omega
      have hz : ts[k]? = some (ts[k]'hkl) := List.getElem?_eq_getElem hkl
      generalize ts[k]'hkl = x at hz
      obtain ⟨a', cap', ea, hob⟩ := (Hg.out.below (BW.out.mono hn)).sl
      cases ea
      obtain ⟨hp, q, off, rfl, hq, hc⟩ := hob k x hz
      have Hz : Hid (g.slots[k]? = some (x.2.map (·.2))) := by show _ = _; rw [Hes.out, List.getElem?_map, hz]; rfl
      have He : Hid (en E0 (g.slots.take (k + 1)) = (en E0 (g.slots.take k)) ++ flat x.2) := by show _ = _; rw [en, slotsF_snoc Hz.out, en, List.append_assoc]; rfl
      have Hle : Hid ((en E0 (g.slots.take k)).length + (flat x.2).length ≤ 1000000000000) := by
        have h1 := slotsF_take g.slots (k + 1)
        have h2 := congrArg List.length He.out
        have h4 := Hel.out
        simp only [en, List.length_append] at h2 h4 ⊢
        show _ ≤ _
        omega
      have hxs := Hs.out.f x (List.mem_of_getElem? hz)
      have hcc := slConcat_any n0 x.1 x.2 wr hp (Nat.le_trans hn BW.out.size) hxs.1 (by rw [← flat_len]; have := Hle.out; omega)
      obtain ⟨ap, cp, ep, -⟩ := hp
      rw [ep] at hc hcc
      clear hob hz ep hxs
      go_wp2_with fail
      refine hcc.mono ?_
      rintro e w5 ⟨v5, rfl, b5, o5⟩
      clear hcc
      obtain ⟨a5, c5, hv5⟩ := own_slI o5
      subst hv5
      have HN : Hid (∀ (j : Nat) u, (Kg.ints (flat x.2))[j]? = some u → ∃ ad, a5 = some ad ∧ w5.cell? (ad.add j) = some u) := lrd_news (Lrd.of_row (Kg.row_base o5 (Nat.zero_le _)))
      have Hr5 : Hid (w5.ownsRow w1.heap.size 3 1 (.slice a3 (en E0 (g.slots.take k)).length c3) (en E0 (g.slots.take k)).length (Kg.ints (en E0 (g.slots.take k)))) := Kg.row_keep2 Hr.out (Kg.Touch.of_below b5 []) (fun _ _ => by simp)
      have Hb5 : Hid (Below w1.heap.size w1 w5) := Hb.out.trans (b5.mono Hb.out.size)
      clear b5 o5 Hr
      go_wp2_with (at_builtin; refine Kg.wpList_append_row rfl _ _ 24 rfl w1.heap.size 3 i0 (.int .i64 0) 8 Tryd.underlying24 HI.out.1 HI.out.2.1 HI.out.2.2.1 HI.out.2.2.2 rfl _ _ _ rfl Hr5.out a5 (flat x.2).length c5 (Kg.ints (flat x.2)) (by simp [Kg.ints]) rfl HN.out (by simp [Kg.ints, Value.oneCell']) (by have := Hle.out; simp only [maxLen]; omega) (by have := Hle.out; omega) Hb5.out.size ?_; intro v' w8 hown' hgrow _ hat _)
      go_roundw
      case rel =>
        refine ⟨k + 1, by omega, by go_num, ?_, ?_⟩
        · show w8.ownsRow _ _ _ _ _ _
          rw [He.out]
          simp only [Kg.ints, List.map_append, List.length_append] at hown' ⊢
          exact hown'
        · have t8 : Kg.Touch (Value.slice a3 (en E0 (g.slots.take k)).length c3).ownBlock.toList w5 w8 := Kg.Touch.grown hgrow (fun y hy => by rw [Option.mem_toList]; exact hy)
          exact Hb5.out.trans (t8.below Hb5.out.size (fun y hy => by rw [Option.mem_toList] at hy; exact (Hr5.out.lt y hy).1))
      case measure => simp [intOf]; omega
    · have hki : ¬ (k : Int) < (ts.length : Int) := by omega
      have e9 : g.slots.take k = g.slots := List.take_of_length_le (by rw [Hes.out, List.length_map]; omega)
      rw [e9] at Hr ⊢
      have HEn : Hid (en E0 g.slots = g.hs ++ g.qu ++ slotsF g.slots) := by show _ = _; rw [en, HE0.out]
      have HEl : Hid ((en E0 g.slots).length ≤ 1000000000000) := by
        have := Hel.out
        show _ ≤ _
        rw [en, List.length_append]
        omega
      have q := delF_any w1.heap.size (.slice a3 (en E0 g.slots).length c3) (en E0 g.slots) wr Hr.out HEl.out
      have HR0 : Hid (rw17 g 0 = (en E0 g.slots).filter (fun z => !decide (z < 1))) := by show _ = _; rw [HEn.out]; rfl
      generalize en E0 g.slots = E at *
      clear e9
      go_wp2_with fail
      refine q.mono ?_
      rintro e w9 ⟨v9, rfl, o9, b9⟩
      rw [← HR0.out] at o9
      have H9 : Hid (Il w9 w1.heap.size v9 (rw17 g 0)) := o9
      have HB9 : Hid (Below w.heap.size w w9) := l1.trans ((Hb.out.trans b9).mono l1.size)
      clear q o9 b9
      go_wp2
      go_ret
      exact ⟨_, rfl, Kg.row_base H9.out l1.size, HB9.out⟩

end Go.Proofs.YtckgcpoheodbcaaDoor
