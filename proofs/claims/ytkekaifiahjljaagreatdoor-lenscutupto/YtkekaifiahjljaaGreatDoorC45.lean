import Derived.Test.YtkekaifiahjljaaGreatDoorC43
import Derived.Test.YtkekaifiahjljaaGreatDoorC44
import Derived.Test.YtkekaifiahjljaaGreatDoorC29
set_option linter.unusedVariables false
set_option maxHeartbeats 8000000
set_option maxRecDepth 20000
namespace Go.Proofs.YtkekaifiahjljaaGreatDoor
open Go.RowKit Go.Shelf Go.Proofs.YtkekaifiahjljaaGreatDoor.Lt
abbrev zob5 : Array Value := #[.int .u64 0, .int .i64 0, .int .i64 0, .slice none 0 0, .slice none 0 0]
theorem infoO17 : (Tryz.prog.info? 39).map (fun i => (i.zero, i.size, i.bytes)) = some (some (.agg zob5), 5, 72) := by kernel_rfl
theorem infoLL17 : (Tryz.prog.info? 48).map (fun i => (i.zero, i.size, i.bytes)) = some (some (.slice none 0 0), 1, 24) := by kernel_rfl
theorem cells_new5 (w : World) (t : TypeId) (cs : Array Value) : ∀ j u, cs.toList[j]? = some u → (w.alloc (.cells cs t)).cell? ((⟨w.heap.size, 0, none⟩ : Addr).add j) = some u := fun j u hu => by
  rw [Addr.add_lit, Nat.zero_add, Kg.heap_cell (heap_alloc_new w (.cells cs t (0, 0))) j]
  simpa using hu
theorem ofl_snoc (l : List OL) (y : OL) : ofl (l ++ [y]) = ofl l ++ y.cells.toList := by
  unfold ofl
  rw [List.flatMap_append]
  simp
theorem fr_len {os : List OL} {ts : List (Value × List (Value × List Int))} {g : Im.Gr} (h : gsz os ts g ≤ 1048576) : ts.length ≤ 1048576 ∧ (∀ t, t ∈ ts → t.2.length ≤ 1048576 ∧ ∀ y, y ∈ t.2 → y.2.length ≤ 1048576) ∧ g.hs.length ≤ 1048576 ∧ g.qu.length ≤ 1048576 := by
  have ht : ∀ x, x ∈ ts → x.2.length + fsum (x.2.map (·.2)) ≤ tsum ts := sum_mem (fun x : Value × List (Value × List Int) => x.2.length + fsum (x.2.map (·.2))) ts
  have hf : ∀ (l : List (Value × List Int)) y, y ∈ l → y.2.length ≤ fsum (l.map (·.2)) := fun l y hy => by
    unfold fsum
    rw [List.map_map]
    exact sum_mem (List.length ∘ fun x : Value × List Int => x.2) l y hy
  unfold gsz szs at h
  exact ⟨by omega, fun t h1 => ⟨by have := ht t h1; omega, fun y hy => by have := ht t h1; have := hf _ y hy; omega⟩, by omega, by omega⟩
theorem cell_new1 (w : World) (t : TypeId) (v : Value) : ∀ j u, [v][j]? = some u → (w.alloc (.cells #[v] t)).cell? ((⟨w.heap.size, 0, none⟩ : Addr).add j) = some u := fun j u hu => by
  rw [Addr.add_lit, Nat.zero_add, Kg.heap_cell (heap_alloc_new w (.cells #[v] t (0, 0))) j]
  simpa using hu
abbrev zgr : Array Value := #[.slice none 0 0, .slice none 0 0, .slice none 0 0, .slice none 0 0, .slice none 0 0, .int .u64 0]
set_option maxHeartbeats 16000000 in
theorem without17_any (n0 : Nat) (w : World) (vo vs vh vr vq : Value) (os : List OL) (ts : List (Value × List (Value × List Int))) (g : Im.Gr) (hg : Grd n0 w vo vs vh vr vq os ts g) (hn : n0 ≤ w.heap.size) (hb : Big19 os ts g) (hz : gsz os ts g ≤ 1048576) (x : Int) :
    Calls Tryz.prog 18 #[.agg (gcs vo vs vh vr vq g.next), .int .i64 x] w fun e w' => ∃ (vo' vs' vh' vr' vq' : Value) (os' : List OL) (ts' : List (Value × List (Value × List Int))), e = .returned (.agg (gcs vo' vs' vh' vr' vq' (cutG x g).next)) ∧ Grd w'.heap.size w' vo' vs' vh' vr' vq' os' ts' (cutG x g) ∧ os'.length = os.length ∧ Sln ts' ∧ (∀ y, y ∈ os' → y.o.ps.length ≤ 1048576) ∧ Below w.heap.size w w' := by
  obtain ⟨i0, hi0, hj0, hj1, hj2⟩ := info_p17 infoO17
  have HI : Hid (Tryz.prog.info? 39 = some i0 ∧ i0.zero = some (.agg zob5) ∧ i0.size = 5 ∧ i0.bytes = 72) := ⟨hi0, hj0, hj1, hj2⟩
  clear hi0 hj0 hj1 hj2
  have hts := fr_len hz
  have HTs : Hid (ts.length ≤ 1048576 ∧ (∀ t, t ∈ ts → t.2.length ≤ 1048576 ∧ ∀ y, y ∈ t.2 → y.2.length ≤ 1048576) ∧ g.hs.length ≤ 1048576 ∧ g.qu.length ≤ 1048576) := hts
  clear hts hz
  obtain ⟨oa, oc, eo, -⟩ := id hg.ob
  obtain ⟨sa, sc, es, -⟩ := id hg.sl
  obtain ⟨ha, hc, eh, -, -⟩ := id hg.hs
  obtain ⟨qa, qc, eq, -, -⟩ := id hg.qu
  subst eo es eh eq
  obtain ⟨s1, s2, s3⟩ := heap_chain [.cells (gcs (.slice oa os.length oc) (.slice sa ts.length sc) (.slice ha g.hs.length hc) vr (.slice qa g.qu.length qc) g.next) 27, .cells zgr 27, .cells zgr 27] w
  have l0 := s3 0 _ rfl
  have l1 := s3 1 _ rfl
  have l2 := s3 2 _ rfl
  clear s3
  rw [Nat.add_zero] at l0
  obtain ⟨A, hA⟩ : ∃ A, A = w.heap.size := ⟨_, rfl⟩
  obtain ⟨R4, hR⟩ : ∃ R4, R4 = w.heap.size + 1 := ⟨_, rfl⟩
  obtain ⟨H, hH⟩ : ∃ H, H = w.heap.size + 2 := ⟨_, rfl⟩
  have hH' : H = w.heap.size + 1 + 1 := by omega
  rw [← hA] at l0
  rw [← hR] at l1
  rw [← hH] at l2
  have HBG : Hid (Big19 os ts g) := hb
  have HGr : Hid (Grd n0 w (.slice oa os.length oc) (.slice sa ts.length sc) (.slice ha g.hs.length hc) vr (.slice qa g.qu.length qc) os ts g) := hg
  have HNn : Hid (n0 ≤ w.heap.size) := hn
  clear hg hn hb
  go_enter Tryz.func18, Tryz.ntmps18
  go_upto_region 2 with fail
  change Code.wp _ _ _ _ ([Obj.cells (gcs (.slice oa os.length oc) (.slice sa ts.length sc) (.slice ha g.hs.length hc) vr (.slice qa g.qu.length qc) g.next) 27, .cells zgr 27, .cells zgr 27].foldl (fun w o => w.alloc o) w)
  generalize [Obj.cells (gcs (.slice oa os.length oc) (.slice sa ts.length sc) (.slice ha g.hs.length hc) vr (.slice qa g.qu.length qc) g.next) 27, .cells zgr 27, .cells zgr 27].foldl (fun w o => w.alloc o) w = W at *
  rw [← hH', ← hR, ← hA]
  have hWs : W.heap.size = w.heap.size + 3 := s1
  have HX : Hid (∀ w', Kg.Touch [H] W w' → Below w.heap.size w w' ∧ Grd n0 w' (.slice oa os.length oc) (.slice sa ts.length sc) (.slice ha g.hs.length hc) vr (.slice qa g.qu.length qc) os ts g ∧ n0 ≤ w'.heap.size ∧ W.heap.size ≤ w'.heap.size ∧ w'.heap[A]? = some (.cells (gcs (.slice oa os.length oc) (.slice sa ts.length sc) (.slice ha g.hs.length hc) vr (.slice qa g.qu.length qc) g.next) 27 (0, 0)) ∧ w'.heap[R4]? = some (.cells zgr 27 (0, 0))) := fun w' t => by
    have b1 : Below w.heap.size W w' := t.below (by omega) (fun k hk => by rw [List.mem_singleton.1 hk]; omega)
    have b2 := s2.trans b1
    refine ⟨b2, HGr.out.below (b2.mono HNn.out), Nat.le_trans HNn.out b2.size, t.size, (t.block A (by omega) (by simp; omega)).trans l0, (t.block R4 (by omega) (by simp; omega)).trans l1⟩
  have HWs : Hid (H < W.heap.size ∧ w.heap.size ≤ H ∧ R4 < W.heap.size ∧ R4 ≠ H ∧ w.heap.size ≤ R4 ∧ w.heap.size ≤ W.heap.size) := ⟨by omega, by omega, by omega, by omega, by omega, by omega⟩
  obtain ⟨B, hB⟩ : ∃ B, B = W.heap.size := ⟨_, rfl⟩
  have HBW : Hid (B = W.heap.size) := hB
  have HH0 : Hid (W.heap[H]? = some (.cells #[.slice none 0 0, .slice none 0 0, .slice none 0 0, .slice none 0 0, .slice none 0 0, .int .u64 0] 27 (0, 0))) := l2
  have hoI := HBG.out.o
  clear hA hR hH hH' l0 l1 l2 s1 s2 hWs hB
  go_wp2
  go_loopw [6, 7] (fun v6 _ wr => ∃ (os' : List OL) (v : Value), v6 = .int .i64 (os'.length : Nat) ∧ Hid (Mo wr B x os os' v) ∧ Hid (Kg.Touch [H] W wr) ∧ Hid (wr.heap[H]? = some (.cells #[v, .slice none 0 0, .slice none 0 0, .slice none 0 0, .slice none 0 0, .int .u64 0] 27 (0, 0)))) (fun v6 _ _ => os.length - (intOf v6).toNat)
  case atStart => exact ⟨[], .slice none 0 0, rfl, ⟨World.ownsRow_nil _ _ _ _, Nat.zero_le _, fun j x hx x' hx' => by simp at hx'⟩, Kg.Touch.refl _ _, HH0⟩
  case round =>
    obtain ⟨os', v, rfl, HMo, HT, HHr⟩ := hrel
    obtain ⟨-, gr, hnr, -, hA9, -⟩ := HX.out wr HT.out
    have y0 := Kg.heap_cell hA9 0
    by_cases hkl : os'.length < os.length
    · have hkI : (os'.length : Int) < (os.length : Int) := by omega
      obtain ⟨e, he⟩ : ∃ e, os[os'.length]? = some e := ⟨_, List.getElem?_eq_getElem hkl⟩
      obtain ⟨qb, ob, pa, pc, ra, rc, rfl, ep, er, lp, hobs, d0, d1, d2, d3, d4⟩ := gr.obj he
      have HE : Hid (os[os'.length]? = some e ∧ e.vr = .slice ra e.o.rs.length rc) := ⟨he, er⟩
      have b1 : Below wr.heap.size wr (wr.alloc (.cells (ocs e.o.ser e.o.kind e.o.site (.slice pa e.o.ps.length pc) (.slice ra e.o.rs.length rc)) 39)) := Below.alloc (Below.refl _ _) (Nat.le_refl _) _
      have hX := heap_alloc_new wr (.cells (ocs e.o.ser e.o.kind e.o.site (.slice pa e.o.ps.length pc) (.slice ra e.o.rs.length rc)) 39 (0, 0))
      have hXs : (wr.alloc (.cells (ocs e.o.ser e.o.kind e.o.site (.slice pa e.o.ps.length pc) (.slice ra e.o.rs.length rc)) 39)).heap.size = wr.heap.size + 1 := by simp
      rw [ep] at lp
      have hpl := HBG.out.r e (List.mem_of_getElem? he)
      have q := cut17_any n0 (wr.alloc (.cells (ocs e.o.ser e.o.kind e.o.site (.slice pa e.o.ps.length pc) (.slice ra e.o.rs.length rc)) 39)) (Nat.le_trans hnr b1.size) _ e.o.ps x (lp.below (b1.mono hnr)) (by omega)
      clear gr hA9 ep er lp hobs he
      go_upto_region 6 with fail
      change Code.wp _ _ _ _ (wr.alloc (.cells (ocs e.o.ser e.o.kind e.o.site (.slice pa e.o.ps.length pc) (.slice ra e.o.rs.length rc)) 39))
      obtain ⟨X, hXe⟩ : ∃ X, X = wr.heap.size := ⟨_, rfl⟩
      have HXe : Hid (X = wr.heap.size) := hXe
      have HB1 : Hid (Below wr.heap.size wr (wr.alloc (.cells (ocs e.o.ser e.o.kind e.o.site (.slice pa e.o.ps.length pc) (.slice ra e.o.rs.length rc)) 39))) := b1
      rw [← hXe] at hX hXs
      rw [← hXe]
      clear d0 d1 d2 d3 d4 y0 b1 hXe hnr
      generalize wr.alloc (.cells (ocs e.o.ser e.o.kind e.o.site (.slice pa e.o.ps.length pc) (.slice ra e.o.rs.length rc)) 39) = w1 at *
      have HX1 : Hid (w1.heap[X]? = some (.cells (ocs e.o.ser e.o.kind e.o.site (.slice pa e.o.ps.length pc) (.slice ra e.o.rs.length rc)) 39 (0, 0)) ∧ w1.heap.size = X + 1) := ⟨hX, hXs⟩
      have x3 := Kg.heap_cell hX 3
      clear hX hXs
      go_wp2_with fail
      refine q.mono ?_
      rintro e2 w2 ⟨vp, rfl, i2, b2⟩
      obtain ⟨ap, cp, evp⟩ := own_sl17 i2
      rw [cutZ_len] at evp
      subst evp
      have HX2 : Hid (w2.heap[X]? = some (.cells (ocs e.o.ser e.o.kind e.o.site (.slice pa e.o.ps.length pc) (.slice ra e.o.rs.length rc)) 39 (0, 0))) := (b2.block X (by have := HX1.out.2; omega)).trans HX1.out.1
      have HI2 : Hid (Il w2 w1.heap.size (.slice ap e.o.ps.length cp) (cutZ x e.o.ps)) := i2
      have HB2 : Hid (Below w1.heap.size w1 w2) := b2
      have c3 := Kg.heap_cell HX2.out 3
      have f3 := Kg.heap_frozen HX2.out 3
      clear q i2 b2 x3
      go_upto_region 7 with fail
      have HX3 : Hid ((w2.setCell ⟨X, 3, none⟩ (.slice ap e.o.ps.length cp)).heap[X]? = some (.cells (ocs e.o.ser e.o.kind e.o.site (.slice ap e.o.ps.length cp) (.slice ra e.o.rs.length rc)) 39 (0, 0))) := Kg.heap_set HX2.out 3 _
      have t23 : Kg.Touch [X] w2 (w2.setCell ⟨X, 3, none⟩ (.slice ap e.o.ps.length cp)) := Kg.Touch.setCell _ _ _ (by simp)
      have HT3 : Hid (Kg.Touch [X] wr (w2.setCell ⟨X, 3, none⟩ (.slice ap e.o.ps.length cp))) := ((Kg.Touch.of_below HB1.out [X]).trans (Kg.Touch.of_below HB2.out [X])).trans t23
      have HI3 : Hid (Il (w2.setCell ⟨X, 3, none⟩ (.slice ap e.o.ps.length cp)) B (.slice ap e.o.ps.length cp) (cutZ x e.o.ps)) := Kg.row_base (row_ty HI2.out t23 (Oft.one (T := [39]) HX2.out (by simp)) (by decide)) (by have := HX1.out.2; have := HXe.out; have := HT.out.size; have := HBW.out; omega)
      have HOf : Hid (∀ T, Oft T [X] wr) := fun T k hk => .inl (by rw [List.mem_singleton.1 hk, HXe.out]; exact Nat.le_refl _)
      clear c3 f3 t23 HX2 HI2 HB2 HX1 HB1
      generalize w2.setCell ⟨X, 3, none⟩ (.slice ap e.o.ps.length cp) = w3 at *
      have HM3 : Hid (Mo w3 B x os os' v) := HMo.out.keep HT3.out (HOf.out []) (by simp) (by simp)
      have HH3 : Hid (w3.heap[H]? = some (.cells #[v, .slice none 0 0, .slice none 0 0, .slice none 0 0, .slice none 0 0, .int .u64 0] 27 (0, 0))) := heap_ty HHr.out HT3.out (HOf.out []) (by simp)
      have HT3' : Hid (Kg.Touch [H] W w3) := tw_next HT.out HT3.out (fun k hk => .inr (by rw [List.mem_singleton.1 hk, HXe.out]; exact HT.out.size))
      clear HMo HHr HT HT3 HOf
      have y0 := Kg.heap_cell HH3.out 0
      have x0 := Kg.heap_cell HX3.out 0
      have x1 := Kg.heap_cell HX3.out 1
      have x2 := Kg.heap_cell HX3.out 2
      have x3 := Kg.heap_cell HX3.out 3
      have x4 := Kg.heap_cell HX3.out 4
      obtain ⟨va, vc, rfl⟩ := own_sl17 HM3.out.r
      have hol5 := HM3.out.l
      have hz3 := HT3'.out.size
      have HRow : Hid ((w3.alloc (.cells (ocs e.o.ser e.o.kind e.o.site (.slice ap e.o.ps.length cp) (.slice ra e.o.rs.length rc)) 39)).ownsRow B 39 5 (.slice va os'.length vc) os'.length (ofl os')) := HM3.out.r.alloc _
      have hone : ∀ u, u ∈ (ocs e.o.ser e.o.kind e.o.site (.slice ap e.o.ps.length cp) (.slice ra e.o.rs.length rc)).toList → u.oneCell' = true := by simp [Value.oneCell']
      have hmx : os'.length + 1 ≤ maxLen := by simp only [maxLen]; omega
      have hby : (os'.length + 1) * 72 ≤ 140737488355328 := by omega
      have hbs : B ≤ (w3.alloc (.cells (ocs e.o.ser e.o.kind e.o.site (.slice ap e.o.ps.length cp) (.slice ra e.o.rs.length rc)) 39)).heap.size := by have := HBW.out; simp; omega
      have hun := Tryz.underlying22
      go_wp2_with (at_builtin; refine wpList_append_own_at _ rfl _ _ 22 rfl B 39 i0 (.agg zob5) 5 72 Tryz.underlying22 HI.out.1 HI.out.2.1 HI.out.2.2.1 HI.out.2.2.2 rfl (by decide) _ _ _ rfl HRow.out ⟨w3.heap.size, 0, none⟩ 1 1 (ocs e.o.ser e.o.kind e.o.site (.slice ap e.o.ps.length cp) (.slice ra e.o.rs.length rc)).toList rfl rfl (cells_new5 _ _ _) hone hmx hby hbs ?_; intro v8 w8 h8 g8 e8 d8; obtain ⟨a8, c8, rfl⟩ := own_sl17 h8; have tA : Kg.Touch (Value.slice va os'.length vc).ownBlock.toList w3 w8 := (Kg.Touch.alloc _ w3 _).trans (Kg.Touch.grown g8 (fun k hk => by rw [Option.mem_toList]; exact hk)); have hOf : Oft [39] (Value.slice va os'.length vc).ownBlock.toList w3 := Oft.row HM3.out.r (by simp); have HH8 : Hid (w8.heap[H]? = some (.cells #[.slice va os'.length vc, .slice none 0 0, .slice none 0 0, .slice none 0 0, .slice none 0 0, .int .u64 0] 27 (0, 0))) := heap_ty HH3.out tA hOf (by decide); have c0 := Kg.heap_cell HH8.out 0; have f0 := Kg.heap_frozen HH8.out 0)
      obtain ⟨y, hy⟩ : ∃ y : OL, y = ⟨cutO x e.o, .slice ap e.o.ps.length cp, e.vr⟩ := ⟨_, rfl⟩
      have hyc : y.cells = ocs e.o.ser e.o.kind e.o.site (.slice ap e.o.ps.length cp) (.slice ra e.o.rs.length rc) := by rw [hy, ← HE.out.2]; rfl
      have HM8 : Hid (Mo w8 B x os (os' ++ [y]) (.slice a8 (os'.length + 1) c8)) := by
        refine ⟨?_, by rw [List.length_append]; exact hkl, fun j xx hxx x' hx' => ?_⟩
        · rw [List.length_append, List.length_singleton, ofl_snoc, hyc]
          exact h8
        · rcases Nat.lt_or_ge j os'.length with hj | hj
          · rw [List.getElem?_append_left hj] at hx'
            obtain ⟨p1, p2, p3⟩ := HM3.out.e j xx hxx x' hx'
            exact ⟨p1, p2, row_ty p3 tA hOf (by decide)⟩
          · have hj2 := (List.getElem?_eq_some_iff.1 hx').1
            rw [List.length_append, List.length_singleton] at hj2
            have e9 : j = os'.length := by omega
            subst e9
            rw [List.getElem?_append_right (Nat.le_refl _), Nat.sub_self] at hx'
            simp only [List.getElem?_cons_zero, Option.some.injEq] at hx'
            subst hx'
            rw [HE.out.1] at hxx
            cases hxx
            rw [hy]
            exact ⟨rfl, rfl, row_ty HI3.out tA hOf (by decide)⟩
      have HT8 : Hid (Kg.Touch [H] W w8) := tw_next HT3'.out tA (fun k hk => .inr (by rw [← HBW.out]; exact (row_typed HM3.out.r (Option.mem_toList.1 hk)).1))
      have HL9 : Hid ((os' ++ [y]).length = os'.length + 1) := by show _ = _; rw [List.length_append]; rfl
      clear h8 g8 e8 d8 tA hOf hyc hy HM3 HI3 HH3 HT3' HX3 HRow hone hbs y0 x0 x1 x2 x3 x4
      go_roundw
      case rel =>
        have t9 : Kg.Touch [H] w8 (w8.setCell ⟨H, 0, none⟩ (.slice a8 (os'.length + 1) c8)) := Kg.Touch.setCell _ _ _ (by simp)
        have h9 := Kg.heap_set HH8.out 0 (.slice a8 (os'.length + 1) c8)
        exact ⟨os' ++ [y], .slice a8 (os'.length + 1) c8, by rw [HL9.out]; go_num, HM8.out.keep t9 (Oft.one (T := [27]) HH8.out (by simp)) (by decide) (by decide), HT8.out.trans t9, h9⟩
      case measure => simp [intOf]; omega
    · have hkI : ¬ (os'.length : Int) < (os.length : Int) := by omega
      have HOl : Hid (os'.length = os.length) := by have := HMo.out.l; show _ = _; omega
      clear HH0
      obtain ⟨va, vc, rfl⟩ := own_sl17 HMo.out.r
      go_upto_region 9 with fail
      generalize Value.slice va os'.length vc = vO at *
      obtain ⟨j0, hj0', hk0, hk1, hk2⟩ := info_p17 infoL17
      have HJ : Hid (Tryz.prog.info? 24 = some j0 ∧ j0.zero = some (.slice none 0 0) ∧ j0.size = 1 ∧ j0.bytes = 24) := ⟨hj0', hk0, hk1, hk2⟩
      clear hj0' hk0 hk1 hk2
      obtain ⟨m0, hm0', hl0, hl1, hl2⟩ := info_p17 infoLL17
      have HK : Hid (Tryz.prog.info? 48 = some m0 ∧ m0.zero = some (.slice none 0 0) ∧ m0.size = 1 ∧ m0.bytes = 24) := ⟨hm0', hl0, hl1, hl2⟩
      clear hm0' hl0 hl1 hl2 y0 hA9 gr hnr
      go_loopw [8, 9, 10] (fun v8 _ _ wr => ∃ (ts' : List (Value × List (Value × List Int))) (vS : Value), v8 = .int .i64 (ts'.length : Nat) ∧ ts'.length ≤ ts.length ∧ Hid (So wr B ts' vS) ∧ Hid (Mo wr B x os os' vO) ∧ Hid (Kg.Touch [H] W wr) ∧ Hid (wr.heap[H]? = some (.cells #[vO, vS, .slice none 0 0, .slice none 0 0, .slice none 0 0, .int .u64 0] 27 (0, 0))) ∧ Hid (ts'.map (fun t => t.2.map (·.2)) = (ts.take ts'.length).map (fun t => (t.2.map (·.2)).map (cutZ x)))) (fun v8 _ _ _ => ts.length - (intOf v8).toNat)
      case atStart => exact ⟨[], .slice none 0 0, rfl, Nat.zero_le _, ⟨World.ownsRow_nil _ _ _ _, fun t ht => by cases ht⟩, HMo, HT, HHr, rfl⟩
      case round =>
        clear HMo HT HHr
        obtain ⟨ts', vS, rfl, hlt, HSo, HMo, HT, HHr, HE⟩ := hrel
        obtain ⟨-, gr, hnr, -, hA9, -⟩ := HX.out wr HT.out
        have y1 := Kg.heap_cell hA9 1
        by_cases hjl : ts'.length < ts.length
        · have hjI : (ts'.length : Int) < (ts.length : Int) := by omega
          obtain ⟨t0, ht0⟩ : ∃ t, ts[ts'.length]? = some t := ⟨_, List.getElem?_eq_getElem hjl⟩
          obtain ⟨htl, htf⟩ := HTs.out.2.1 t0 (List.mem_of_getElem? ht0)
          have HT0 : Hid (ts[ts'.length]? = some t0) := ht0
          obtain ⟨sa', sc', ea, hob⟩ := gr.sl
          simp only [Value.slice.injEq] at ea
          obtain ⟨rfl, -, rfl⟩ := ea
          obtain ⟨hfr, qs, osf, rfl, hqs, cs0⟩ := hob _ t0 ht0
          obtain ⟨fa, fc, ef, -⟩ := id hfr
          have HFr : Hid (∀ w', Kg.Touch [H] W w' → Frd n0 w' t0.1 t0.2 ∧ w'.cell? ⟨A, 1, none⟩ = some (.slice (some ⟨qs, osf, none⟩) ts.length sc) ∧ w'.cell? ⟨qs, osf + ts'.length, none⟩ = some (.slice fa t0.2.length fc)) := fun w' t => by
            obtain ⟨-, gr', -, -, hA', -⟩ := HX.out w' t
            obtain ⟨_, _, ea, hob'⟩ := gr'.sl
            obtain ⟨h1, _, _, h3, _, h4⟩ := hob' _ t0 HT0.out
            cases ea
            cases h3
            rw [ef] at h4
            exact ⟨h1, Kg.heap_cell hA' 1, h4⟩
          clear hob hqs cs0 hfr gr hA9 y1 ht0 hnr
          obtain ⟨-, y1, y2⟩ := HFr.out wr HT.out
          go_upto_region 13 with fail
          clear y1 y2
          obtain ⟨wo, hwo⟩ : ∃ wo, wo = wr := ⟨_, rfl⟩
          subst hwo
          go_loopw [9, 10] (fun v9 v10 wr => ∃ (fs' : List (Value × List Int)), v10 = .int .i64 (fs'.length : Nat) ∧ fs'.length ≤ t0.2.length ∧ Hid (Fo wr wo.heap.size (v9, fs')) ∧ Hid (Below wo.heap.size wo wr) ∧ Hid (fs'.map (·.2) = (t0.2.take fs'.length).map (fun y => cutZ x y.2))) (fun _ v10 _ => t0.2.length - (intOf v10).toNat)
          case atStart => exact ⟨[], rfl, Nat.zero_le _, ⟨World.ownsRow_nil _ _ _ _, fun y hy => by cases hy⟩, Below.refl _ _, rfl⟩
          case round =>
            obtain ⟨fs', rfl, hfl, HFo, HBo, HEf⟩ := hrel
            have HTr : Hid (Kg.Touch [H] W wr) := tw_next HT.out (Kg.Touch.of_below HBo.out []) (fun k hk => by cases hk)
            obtain ⟨hfr, y1, y2⟩ := HFr.out wr HTr.out
            have HFr0 : wr.ownsRow wo.heap.size 24 1 u9 fs'.length (fs'.map (·.1)) := HFo.out.r
            obtain ⟨vfa, vfc, rfl⟩ := own_sl17 HFr0
            clear HFr0
            obtain ⟨-, -, hnr, hWr, -, -⟩ := HX.out wr HTr.out
            by_cases hffl : fs'.length < t0.2.length
            · have hfI : (fs'.length : Int) < (t0.2.length : Int) := by omega
              obtain ⟨y, hy⟩ : ∃ y, t0.2[fs'.length]? = some y := ⟨_, List.getElem?_eq_getElem hffl⟩
              obtain ⟨fa', fc', ew, how⟩ := hfr
              rw [ef] at ew
              simp only [Value.slice.injEq] at ew
              obtain ⟨rfl, -, rfl⟩ := ew
              obtain ⟨lyr, q4, off4, rfl, hq4, cy⟩ := how _ y hy
              obtain ⟨ya, yc, ey, -⟩ := id lyr
              rw [ey] at cy lyr
              have hyl := htf y (List.mem_of_getElem? hy)
              have q := cut17_any n0 wr hnr _ y.2 x lyr (by omega)
              have HNf : Hid ((t0.2.take (fs'.length + 1)).map (fun y => cutZ x y.2) = (t0.2.take fs'.length).map (fun y => cutZ x y.2) ++ [cutZ x y.2]) := by
                show _ = _
                rw [List.take_add_one, hy, List.map_append]
                rfl
              clear how lyr hq4 ey hy
              go_wp2_with fail
              refine q.mono ?_
              rintro e2 w2 ⟨vp, rfl, i2, b2⟩
              obtain ⟨ap, cp, evp⟩ := own_sl17 i2
              rw [cutZ_len] at evp
              subst evp
              have t2 : Kg.Touch [] wr w2 := Kg.Touch.of_below b2 []
              have HF2 : Hid (Fo w2 wo.heap.size (.slice vfa fs'.length vfc, fs')) := HFo.out.keep t2 (Oft.nil [] wr) (by simp) (by simp)
              have HB2 : Hid (Below wo.heap.size wo w2) := HBo.out.trans (b2.mono HBo.out.size)
              have HI2 : Hid (Il w2 wo.heap.size (.slice ap y.2.length cp) (cutZ x y.2)) := Kg.row_base i2 HBo.out.size
              have hz2 := HB2.out.size
              clear q i2 b2 t2 HFo HBo HTr y1 y2 cy
              have HRow : Hid ((w2.alloc (.cells #[.slice ap y.2.length cp] 24)).ownsRow wo.heap.size 24 1 (.slice vfa fs'.length vfc) fs'.length (fs'.map (·.1))) := HF2.out.r.alloc _
              have hone : ∀ u, u ∈ [Value.slice ap y.2.length cp] → u.oneCell' = true := by simp [Value.oneCell']
              have hmx : fs'.length + 1 ≤ maxLen := by simp only [maxLen]; omega
              have hby : (fs'.length + 1) * 24 ≤ 140737488355328 := by omega
              have hbs : wo.heap.size ≤ (w2.alloc (.cells #[.slice ap y.2.length cp] 24)).heap.size := by simp; omega
              go_wp2_with (at_builtin; refine wpList_append_own_at _ rfl _ _ 48 rfl wo.heap.size 24 j0 (.slice none 0 0) 1 24 Tryz.underlying48 HJ.out.1 HJ.out.2.1 HJ.out.2.2.1 HJ.out.2.2.2 rfl (by decide) _ _ _ rfl HRow.out ⟨w2.heap.size, 0, none⟩ 1 1 [.slice ap y.2.length cp] rfl rfl (cell_new1 _ _ _) hone hmx hby hbs ?_; intro v8 w8 h8 g8 e8 d8; obtain ⟨a8, c8, rfl⟩ := own_sl17 h8)
              have tA : Kg.Touch (Value.slice vfa fs'.length vfc).ownBlock.toList w2 w8 := (Kg.Touch.alloc _ w2 _).trans (Kg.Touch.grown g8 (fun k hk => by rw [Option.mem_toList]; exact hk))
              have hOf : Oft [24] (Value.slice vfa fs'.length vfc).ownBlock.toList w2 := Oft.row HF2.out.r (by simp)
              have HB8 : Hid (Below wo.heap.size wo w8) := HB2.out.trans (tA.below HB2.out.size (fun k hk => (row_typed HF2.out.r (Option.mem_toList.1 hk)).1))
              have HF8 : Hid (Fo w8 wo.heap.size (.slice a8 (fs'.length + 1) c8, fs' ++ [(.slice ap y.2.length cp, cutZ x y.2)])) := by
                refine ⟨?_, fun z hz => ?_⟩
                · show w8.ownsRow _ _ _ _ _ _
                  rw [List.length_append, List.length_singleton, List.map_append]
                  exact h8
                · rcases List.mem_append.1 hz with h1 | h1
                  · exact row_ty (HF2.out.l z h1) tA hOf (by decide)
                  · rw [List.mem_singleton.1 h1]
                    exact row_ty HI2.out tA hOf (by decide)
              have HE8 : Hid ((fs' ++ [((.slice ap y.2.length cp : Value), cutZ x y.2)]).map (·.2) = (t0.2.take (fs' ++ [((.slice ap y.2.length cp : Value), cutZ x y.2)]).length).map (fun y => cutZ x y.2)) := by
                show _ = _
                rw [List.length_append, List.length_singleton, HNf.out, List.map_append, HEf.out]
                rfl
              have HL8 : Hid ((fs' ++ [((.slice ap y.2.length cp : Value), cutZ x y.2)]).length = fs'.length + 1) := by show _ = _; rw [List.length_append]; rfl
              clear h8 g8 e8 d8 tA hOf HF2 HB2 HI2 HRow hone hbs
              go_roundw
              case rel => exact ⟨_, by rw [HL8.out]; go_num, by rw [HL8.out]; omega, HF8, HB8, HE8⟩
              case measure => simp [intOf]; omega
            · have hfI : ¬ (fs'.length : Int) < (t0.2.length : Int) := by omega
              have hfe : fs'.length = t0.2.length := by omega
              rw [hfe, List.take_length] at HEf
              clear hfe
              have tO := Kg.Touch.of_below HBo.out []
              have HFB : Hid (Fo wr B (.slice vfa fs'.length vfc, fs')) := ⟨Kg.row_base HFo.out.r (by rw [HBW.out]; exact HT.out.size), fun z hz => Kg.row_base (HFo.out.l z hz) (by rw [HBW.out]; exact HT.out.size)⟩
              have HS2 : Hid (So wr B ts' vS) := HSo.out.keep tO (Oft.nil [] wo) (by simp) (by simp) (by simp)
              have HM2 : Hid (Mo wr B x os os' vO) := HMo.out.keep tO (Oft.nil [] wo) (by simp) (by simp)
              have HH2 : Hid (wr.heap[H]? = some (.cells #[vO, vS, .slice none 0 0, .slice none 0 0, .slice none 0 0, .int .u64 0] 27 (0, 0))) := heap_ty HHr.out tO (Oft.nil [] wo) (by simp)
              have h0 := Kg.heap_cell HH2.out 1
              obtain ⟨vsa, vsc, rfl⟩ := own_sl17 HS2.out.r
              have hz2 := HTr.out.size
              have HRow : Hid ((wr.alloc (.cells #[.slice vfa fs'.length vfc] 48)).ownsRow B 48 1 (.slice vsa ts'.length vsc) ts'.length (ts'.map (·.1))) := HS2.out.r.alloc _
              have hone : ∀ u, u ∈ [Value.slice vfa fs'.length vfc] → u.oneCell' = true := by simp [Value.oneCell']
              have htL := HTs.out.1
              have hmx : ts'.length + 1 ≤ maxLen := by simp only [maxLen]; omega
              have hby : (ts'.length + 1) * 24 ≤ 140737488355328 := by omega
              have hbs : B ≤ (wr.alloc (.cells #[.slice vfa fs'.length vfc] 48)).heap.size := by have := HBW.out; simp; omega
              have HNt : Hid ((ts.take (ts'.length + 1)).map (fun t => (t.2.map (·.2)).map (cutZ x)) = (ts.take ts'.length).map (fun t => (t.2.map (·.2)).map (cutZ x)) ++ [(t0.2.map (·.2)).map (cutZ x)]) := by
                show _ = _
                rw [List.take_add_one, HT0.out, List.map_append]
                rfl
              clear hfr hnr hWr
              go_wp2_with (at_builtin; refine wpList_append_own_at _ rfl _ _ 23 rfl B 48 m0 (.slice none 0 0) 1 24 Tryz.underlying23 HK.out.1 HK.out.2.1 HK.out.2.2.1 HK.out.2.2.2 rfl (by decide) _ _ _ rfl HRow.out ⟨wr.heap.size, 0, none⟩ 1 1 [.slice vfa fs'.length vfc] rfl rfl (cell_new1 _ _ _) hone hmx hby hbs ?_; intro v8 w8 h8 g8 e8 d8; obtain ⟨a8, c8, rfl⟩ := own_sl17 h8; have tA : Kg.Touch (Value.slice vsa ts'.length vsc).ownBlock.toList wr w8 := (Kg.Touch.alloc _ wr _).trans (Kg.Touch.grown g8 (fun k hk => by rw [Option.mem_toList]; exact hk)); have hOf : Oft [48] (Value.slice vsa ts'.length vsc).ownBlock.toList wr := Oft.row HS2.out.r (by simp); have HH8 : Hid (w8.heap[H]? = some (.cells #[vO, .slice vsa ts'.length vsc, .slice none 0 0, .slice none 0 0, .slice none 0 0, .int .u64 0] 27 (0, 0))) := heap_ty HH2.out tA hOf (by decide); have c0 := Kg.heap_cell HH8.out 1; have f0 := Kg.heap_frozen HH8.out 1)
              have HM8 : Hid (Mo w8 B x os os' vO) := HM2.out.keep tA hOf (by decide) (by decide)
              have HS8 : Hid (So w8 B (ts' ++ [(.slice vfa fs'.length vfc, fs')]) (.slice a8 (ts'.length + 1) c8)) := by
                refine ⟨?_, fun z hz => ?_⟩
                · rw [List.length_append, List.length_singleton, List.map_append]
                  exact h8
                · rcases List.mem_append.1 hz with h1 | h1
                  · exact (HS2.out.l z h1).keep tA hOf (by decide) (by decide)
                  · rw [List.mem_singleton.1 h1]
                    exact HFB.out.keep tA hOf (by decide) (by decide)
              have HT8 : Hid (Kg.Touch [H] W w8) := tw_next HTr.out tA (fun k hk => .inr (by rw [← HBW.out]; exact (row_typed HS2.out.r (Option.mem_toList.1 hk)).1))
              have HL8 : Hid ((ts' ++ [((.slice vfa fs'.length vfc : Value), fs')]).length = ts'.length + 1) := by show _ = _; rw [List.length_append]; rfl
              have HE8 : Hid ((ts' ++ [((.slice vfa fs'.length vfc : Value), fs')]).map (fun t => t.2.map (·.2)) = (ts.take (ts' ++ [((.slice vfa fs'.length vfc : Value), fs')]).length).map (fun t => (t.2.map (·.2)).map (cutZ x))) := by
                show _ = _
                rw [HL8.out, HNt.out, List.map_append, HE.out]
                congr 1
                show [fs'.map (·.2)] = [_]
                rw [HEf.out, List.map_map]
                rfl
              clear h8 g8 e8 d8 tA hOf HM2 HS2 HH2 HFB HRow hone hbs h0 tO
              go_roundw
              case rel =>
                have t9 : Kg.Touch [H] w8 (w8.setCell ⟨H, 1, none⟩ (.slice a8 (ts'.length + 1) c8)) := Kg.Touch.setCell _ _ _ (by simp)
                have h9 := Kg.heap_set HH8.out 1 (.slice a8 (ts'.length + 1) c8)
                have o9 : Oft [27] [H] w8 := Oft.one HH8.out (by simp)
                exact ⟨_, .slice a8 (ts'.length + 1) c8, by rw [HL8.out]; go_num, by rw [HL8.out]; omega, HS8.out.keep t9 o9 (by decide) (by decide) (by decide), HM8.out.keep t9 o9 (by decide) (by decide), HT8.out.trans t9, h9, HE8⟩
              case measure => simp [intOf]; omega
        · have hjI : ¬ (ts'.length : Int) < (ts.length : Int) := by omega
          have hje : ts'.length = ts.length := by omega
          rw [hje, List.take_length] at HE
          have HJe : Hid (ts'.length = ts.length) := hje
          clear hje
          obtain ⟨-, gr, hnr, hWr, hA9, -⟩ := HX.out wr HT.out
          have y2 := Kg.heap_cell hA9 2
          have y4 := Kg.heap_cell hA9 4
          obtain ⟨vsa, vsc, rfl⟩ := own_sl17 HSo.out.r
          have HS2 : Hid (∀ w', Kg.Touch [H] W w' → w'.cell? ⟨A, 2, none⟩ = some (.slice ha g.hs.length hc) ∧ w'.cell? ⟨A, 4, none⟩ = some (.slice qa g.qu.length qc)) := fun w' t => by
            obtain ⟨-, -, -, -, hA', -⟩ := HX.out w' t
            exact ⟨Kg.heap_cell hA' 2, Kg.heap_cell hA' 4⟩
          have HT1 : Hid (Kg.Touch [H] W wr.drew) := tw_next HT.out (Kg.Touch.drew [] wr) (fun k hk => by cases hk)
          have HQh : Hid (∀ w', Kg.Touch [H] W w' → Calls Tryz.prog 31 #[(.slice ha g.hs.length hc), .int .i64 x] w' fun e w'' => ∃ v', e = .returned v' ∧ Il w'' w'.heap.size v' (cutZ x g.hs) ∧ Below w'.heap.size w' w'') := fun w' t => by
            obtain ⟨-, gr', hn', -, -, -⟩ := HX.out w' t
            exact cut17_any n0 w' hn' _ g.hs x gr'.hs (by have := HTs.out.2.2.1; omega)
          have HQq : Hid (∀ w', Kg.Touch [H] W w' → Calls Tryz.prog 31 #[(.slice qa g.qu.length qc), .int .i64 x] w' fun e w'' => ∃ v', e = .returned v' ∧ Il w'' w'.heap.size v' (cutZ x g.qu) ∧ Below w'.heap.size w' w'') := fun w' t => by
            obtain ⟨-, gr', hn', -, -, -⟩ := HX.out w' t
            exact cut17_any n0 w' hn' _ g.qu x gr'.qu (by have := HTs.out.2.2.2; omega)
          have hs1 := HS2.out _ HT1.out
          clear gr hA9 y2 y4
          go_upto_region 17 with fail
          refine wp_region_held_drew (S := fun w' => w'.cell? ⟨A, 2, none⟩ = some (.slice ha g.hs.length hc) ∧ w'.cell? ⟨A, 4, none⟩ = some (.slice qa g.qu.length qc)) Kg.mixed hs1 (fun hHeld => ?_)
          clear hs1
          refine wpAnyH_take (i := 0) (v := (.pointer (some ⟨A, 2, none⟩))) rfl (by kernel_rfl) (by kernel_rfl) (by kernel_rfl) (fun _ _ _ h => h) (Or.inl ⟨by rfl, fun wx hSw => ?_⟩) (by assumption) ?_
          · obtain ⟨s2, s4⟩ := hSw
            go_simp
          change wpAnyH _ _ _ _ _ _ _ (Act.put _ (some 70) (.pointer (some ⟨A, 2, none⟩))) _
          simp only [Act.put, List.setIfInBounds_toArray, List.set_cons_zero, List.set_cons_succ]
          refine wpAnyH_take (i := 1) (v := (.slice ha g.hs.length hc)) rfl (by kernel_rfl) (by kernel_rfl) (by kernel_rfl) (fun _ _ _ h => h) (Or.inl ⟨by rfl, fun wx hSw => ?_⟩) (by assumption) ?_
          · obtain ⟨s2, s4⟩ := hSw
            go_simp
          change wpAnyH _ _ _ _ _ _ _ (Act.put _ (some 71) (.slice ha g.hs.length hc)) _
          simp only [Act.put, List.setIfInBounds_toArray, List.set_cons_zero, List.set_cons_succ]
          refine wpAnyH_take (i := 2) (v := (.int .i64 x)) rfl (by kernel_rfl) (by kernel_rfl) (by kernel_rfl) (fun _ _ _ h => h) (Or.inl ⟨by rfl, fun wx hSw => ?_⟩) (by assumption) ?_
          · obtain ⟨s2, s4⟩ := hSw
            go_simp
          change wpAnyH _ _ _ _ _ _ _ (Act.put _ (some 72) (.int .i64 x)) _
          simp only [Act.put, List.setIfInBounds_toArray, List.set_cons_zero, List.set_cons_succ]
          refine wpAnyH_take (i := 4) (v := (.pointer (some ⟨A, 4, none⟩))) rfl (by kernel_rfl) (by kernel_rfl) (by kernel_rfl) (fun _ _ _ h => h) (Or.inl ⟨by rfl, fun wx hSw => ?_⟩) (by assumption) ?_
          · obtain ⟨s2, s4⟩ := hSw
            go_simp
          change wpAnyH _ _ _ _ _ _ _ (Act.put _ (some 74) (.pointer (some ⟨A, 4, none⟩))) _
          simp only [Act.put, List.setIfInBounds_toArray, List.set_cons_zero, List.set_cons_succ]
          refine wpAnyH_take (i := 5) (v := (.slice qa g.qu.length qc)) rfl (by kernel_rfl) (by kernel_rfl) (by kernel_rfl) (fun _ _ _ h => h) (Or.inl ⟨by rfl, fun wx hSw => ?_⟩) (by assumption) ?_
          · obtain ⟨s2, s4⟩ := hSw
            go_simp
          change wpAnyH _ _ _ _ _ _ _ (Act.put _ (some 75) (.slice qa g.qu.length qc)) _
          simp only [Act.put, List.setIfInBounds_toArray, List.set_cons_zero, List.set_cons_succ]
          refine wpAnyH_take (i := 6) (v := (.int .i64 x)) rfl (by kernel_rfl) (by kernel_rfl) (by kernel_rfl) (fun _ _ _ h => h) (Or.inl ⟨by rfl, fun wx hSw => ?_⟩) (by assumption) ?_
          · obtain ⟨s2, s4⟩ := hSw
            go_simp
          change wpAnyH _ _ _ _ _ _ _ (Act.put _ (some 76) (.int .i64 x)) _
          simp only [Act.put, List.setIfInBounds_toArray, List.set_cons_zero, List.set_cons_succ]
          refine wpAnyH_ready (rs := [3]) (by kernel_rfl) (by simp) (AllReadyH.cons rfl (fun K hK => ?_) AllReadyH.nil)
          go_simp
          refine (HQh.out _ HT1.out).mono ?_
          rintro e9 w2 ⟨vh2, rfl, i2, b2⟩
          obtain ⟨ah2, ch2, evh2⟩ := own_sl17 i2
          rw [cutZ_len] at evh2
          subst evh2
          have t2 : Kg.Touch [] wr w2 := (Kg.Touch.drew [] wr).trans (Kg.Touch.of_below b2 [])
          have HT2 : Hid (Kg.Touch [H] W w2) := tw_next HT.out t2 (fun k hk => by cases hk)
          have HM2 : Hid (Mo w2 B x os os' vO) := HMo.out.keep t2 (Oft.nil [] wr) (by simp) (by simp)
          have HSo2 : Hid (So w2 B ts' (.slice vsa ts'.length vsc)) := HSo.out.keep t2 (Oft.nil [] wr) (by simp) (by simp) (by simp)
          have HH2 : Hid (w2.heap[H]? = some (.cells #[vO, .slice vsa ts'.length vsc, .slice none 0 0, .slice none 0 0, .slice none 0 0, .int .u64 0] 27 (0, 0))) := heap_ty HHr.out t2 (Oft.nil [] wr) (by simp)
          have HI2 : Hid (Il w2 B (.slice ah2 g.hs.length ch2) (cutZ x g.hs)) := Kg.row_base i2 (by rw [HBW.out]; exact HT1.out.size)
          refine hK.out _ _ (HS2.out _ HT2.out) (fun hHeld2 => ?_)
          clear hK K hHeld i2 b2 t2 HMo HSo HT HHr HT1
          refine wpAnyH_take (i := 8) (v := (.pointer (some ⟨H, 2, none⟩))) rfl (by kernel_rfl) (by kernel_rfl) (by kernel_rfl) (fun _ _ _ h => h) (Or.inl ⟨by rfl, fun wx hSw => ?_⟩) (by assumption) ?_
          · obtain ⟨s2, s4⟩ := hSw
            go_simp
          change wpAnyH _ _ _ _ _ _ _ (Act.put _ (some 78) (.pointer (some ⟨H, 2, none⟩))) _
          simp only [Act.put, List.setIfInBounds_toArray, List.set_cons_zero, List.set_cons_succ]
          refine wpAnyH_ready (rs := [7]) (by kernel_rfl) (by simp) (AllReadyH.cons rfl (fun K hK => ?_) AllReadyH.nil)
          go_simp
          refine (HQq.out _ HT2.out).mono ?_
          rintro e9 w3 ⟨vq2, rfl, i3, b3⟩
          obtain ⟨aq2, cq2, evq2⟩ := own_sl17 i3
          rw [cutZ_len] at evq2
          subst evq2
          have t3 : Kg.Touch [] w2 w3 := Kg.Touch.of_below b3 []
          have HT3 : Hid (Kg.Touch [H] W w3) := tw_next HT2.out t3 (fun k hk => by cases hk)
          have HM3 : Hid (Mo w3 B x os os' vO) := HM2.out.keep t3 (Oft.nil [] w2) (by simp) (by simp)
          have HSo3 : Hid (So w3 B ts' (.slice vsa ts'.length vsc)) := HSo2.out.keep t3 (Oft.nil [] w2) (by simp) (by simp) (by simp)
          have HH3 : Hid (w3.heap[H]? = some (.cells #[vO, .slice vsa ts'.length vsc, .slice none 0 0, .slice none 0 0, .slice none 0 0, .int .u64 0] 27 (0, 0))) := heap_ty HH2.out t3 (Oft.nil [] w2) (by simp)
          have HI3 : Hid (Il w3 B (.slice ah2 g.hs.length ch2) (cutZ x g.hs)) := row_ty HI2.out t3 (Oft.nil [] w2) (by simp)
          have HJ3 : Hid (Il w3 B (.slice aq2 g.qu.length cq2) (cutZ x g.qu)) := Kg.row_base i3 (by rw [HBW.out]; exact HT2.out.size)
          refine hK.out _ _ (HS2.out _ HT3.out) (fun hHeld3 => ?_)
          clear hK K hHeld2 i3 b3 t3 HM2 HSo2 HT2 HH2 HI2 HQh HQq
          refine wpAnyH_ready (rs := [9]) (by kernel_rfl) (by simp) (AllReadyH.cons rfl (fun K hK => ?_) AllReadyH.nil)
          have c3 := Kg.heap_cell HH3.out 2
          have f3 := Kg.heap_frozen HH3.out 2
          go_simp
          have t4 : Kg.Touch [H] w3 (w3.setCell ⟨H, 2, none⟩ (.slice ah2 g.hs.length ch2)) := Kg.Touch.setCell _ _ _ (by simp)
          have o4 : Oft [27] [H] w3 := Oft.one HH3.out (by simp)
          have HH4 : Hid ((w3.setCell ⟨H, 2, none⟩ (.slice ah2 g.hs.length ch2)).heap[H]? = some (.cells #[vO, .slice vsa ts'.length vsc, .slice ah2 g.hs.length ch2, .slice none 0 0, .slice none 0 0, .int .u64 0] 27 (0, 0))) := Kg.heap_set HH3.out 2 _
          have HT4 : Hid (Kg.Touch [H] W (w3.setCell ⟨H, 2, none⟩ (.slice ah2 g.hs.length ch2))) := HT3.out.trans t4
          have HM4 : Hid (Mo (w3.setCell ⟨H, 2, none⟩ (.slice ah2 g.hs.length ch2)) B x os os' vO) := HM3.out.keep t4 o4 (by decide) (by decide)
          have HSo4 : Hid (So (w3.setCell ⟨H, 2, none⟩ (.slice ah2 g.hs.length ch2)) B ts' (.slice vsa ts'.length vsc)) := HSo3.out.keep t4 o4 (by decide) (by decide) (by decide)
          have HI4 : Hid (Il (w3.setCell ⟨H, 2, none⟩ (.slice ah2 g.hs.length ch2)) B (.slice ah2 g.hs.length ch2) (cutZ x g.hs)) := row_ty HI3.out t4 o4 (by decide)
          have HJ4 : Hid (Il (w3.setCell ⟨H, 2, none⟩ (.slice ah2 g.hs.length ch2)) B (.slice aq2 g.qu.length cq2) (cutZ x g.qu)) := row_ty HJ3.out t4 o4 (by decide)
          refine hK.out _ _ (HS2.out _ HT4.out) (fun hHeld4 => ?_)
          clear hK K hHeld3 t4 o4 HM3 HSo3 HT3 HH3 HI3 HJ3 c3 f3
          generalize w3.setCell ⟨H, 2, none⟩ (.slice ah2 g.hs.length ch2) = w4 at *
          refine wpAnyH_take (i := 10) (v := (.pointer (some ⟨H, 4, none⟩))) rfl (by kernel_rfl) (by kernel_rfl) (by kernel_rfl) (fun _ _ _ h => h) (Or.inl ⟨by rfl, fun wx hSw => ?_⟩) (by assumption) ?_
          · obtain ⟨s2, s4⟩ := hSw
            go_simp
          change wpAnyH _ _ _ _ _ _ _ (Act.put _ (some 79) (.pointer (some ⟨H, 4, none⟩))) _
          simp only [Act.put, List.setIfInBounds_toArray, List.set_cons_zero, List.set_cons_succ]
          refine wpAnyH_ready (rs := [11]) (by kernel_rfl) (by simp) (AllReadyH.cons rfl (fun K hK => ?_) AllReadyH.nil)
          have c3 := Kg.heap_cell HH4.out 4
          have f3 := Kg.heap_frozen HH4.out 4
          go_simp
          have t5 : Kg.Touch [H] w4 (w4.setCell ⟨H, 4, none⟩ (.slice aq2 g.qu.length cq2)) := Kg.Touch.setCell _ _ _ (by simp)
          have o5 : Oft [27] [H] w4 := Oft.one HH4.out (by simp)
          have HH5 : Hid ((w4.setCell ⟨H, 4, none⟩ (.slice aq2 g.qu.length cq2)).heap[H]? = some (.cells #[vO, .slice vsa ts'.length vsc, .slice ah2 g.hs.length ch2, .slice none 0 0, .slice aq2 g.qu.length cq2, .int .u64 0] 27 (0, 0))) := Kg.heap_set HH4.out 4 _
          have HT5 : Hid (Kg.Touch [H] W (w4.setCell ⟨H, 4, none⟩ (.slice aq2 g.qu.length cq2))) := HT4.out.trans t5
          have HM5 : Hid (Mo (w4.setCell ⟨H, 4, none⟩ (.slice aq2 g.qu.length cq2)) B x os os' vO) := HM4.out.keep t5 o5 (by decide) (by decide)
          have HSo5 : Hid (So (w4.setCell ⟨H, 4, none⟩ (.slice aq2 g.qu.length cq2)) B ts' (.slice vsa ts'.length vsc)) := HSo4.out.keep t5 o5 (by decide) (by decide) (by decide)
          have HI5 : Hid (Il (w4.setCell ⟨H, 4, none⟩ (.slice aq2 g.qu.length cq2)) B (.slice ah2 g.hs.length ch2) (cutZ x g.hs)) := row_ty HI4.out t5 o5 (by decide)
          have HJ5 : Hid (Il (w4.setCell ⟨H, 4, none⟩ (.slice aq2 g.qu.length cq2)) B (.slice aq2 g.qu.length cq2) (cutZ x g.qu)) := row_ty HJ4.out t5 o5 (by decide)
          refine hK.out _ _ (HS2.out _ HT5.out) (fun hHeld5 => ?_)
          clear hK K hHeld4 t5 o5 HM4 HSo4 HT4 HH4 HI4 HJ4 c3 f3
          generalize w4.setCell ⟨H, 4, none⟩ (.slice aq2 g.qu.length cq2) = w5 at *
          refine wpAnyH_done (by kernel_rfl) ?_ _
          clear hHeld5 HS2
          obtain ⟨voa, voc, rfl⟩ := own_sl17 HM5.out.r
          have c0 := Kg.heap_cell HH5.out 0
          have c1 := Kg.heap_cell HH5.out 1
          have c2 := Kg.heap_cell HH5.out 2
          have c3 := Kg.heap_cell HH5.out 3
          have c4 := Kg.heap_cell HH5.out 4
          have c5 := Kg.heap_cell HH5.out 5
          obtain ⟨-, -, -, -, -, hR5⟩ := HX.out w5 HT5.out
          have r0 := Kg.heap_cell hR5 0
          have HR5 : Hid (w5.heap[R4]? = some (.cells zgr 27 (0, 0))) := hR5
          clear hR5
          have tR : Kg.Touch [R4] w5 (w5.setRow R4 #[.slice voa os'.length voc, .slice vsa ts'.length vsc, .slice ah2 g.hs.length ch2, .slice none 0 0, .slice aq2 g.qu.length cq2, .int .u64 0]) := ⟨rfl, rfl, rfl, by simp, fun k _ hk => setRow_other w5 _ k _ (fun e => hk (by rw [e]; simp))⟩
          have hR6 : (w5.setRow R4 #[.slice voa os'.length voc, .slice vsa ts'.length vsc, .slice ah2 g.hs.length ch2, .slice none 0 0, .slice aq2 g.qu.length cq2, .int .u64 0]).heap[R4]? = some (.cells #[.slice voa os'.length voc, .slice vsa ts'.length vsc, .slice ah2 g.hs.length ch2, .slice none 0 0, .slice aq2 g.qu.length cq2, .int .u64 0] 27 (0, 0)) := setRow_heap _ _ _ _ _ _ HR5.out
          have oR : Oft [27] [R4] w5 := Oft.one HR5.out (by simp)
          have HM6 : Hid (Mo (w5.setRow R4 #[.slice voa os'.length voc, .slice vsa ts'.length vsc, .slice ah2 g.hs.length ch2, .slice none 0 0, .slice aq2 g.qu.length cq2, .int .u64 0]) B x os os' (.slice voa os'.length voc)) := HM5.out.keep tR oR (by decide) (by decide)
          have HSo6 : Hid (So (w5.setRow R4 #[.slice voa os'.length voc, .slice vsa ts'.length vsc, .slice ah2 g.hs.length ch2, .slice none 0 0, .slice aq2 g.qu.length cq2, .int .u64 0]) B ts' (.slice vsa ts'.length vsc)) := HSo5.out.keep tR oR (by decide) (by decide) (by decide)
          have HI6 : Hid (Il (w5.setRow R4 #[.slice voa os'.length voc, .slice vsa ts'.length vsc, .slice ah2 g.hs.length ch2, .slice none 0 0, .slice aq2 g.qu.length cq2, .int .u64 0]) B (.slice ah2 g.hs.length ch2) (cutZ x g.hs)) := row_ty HI5.out tR oR (by decide)
          have HJ6 : Hid (Il (w5.setRow R4 #[.slice voa os'.length voc, .slice vsa ts'.length vsc, .slice ah2 g.hs.length ch2, .slice none 0 0, .slice aq2 g.qu.length cq2, .int .u64 0]) B (.slice aq2 g.qu.length cq2) (cutZ x g.qu)) := row_ty HJ5.out tR oR (by decide)
          have HB6 : Hid (Below w.heap.size w (w5.setRow R4 #[.slice voa os'.length voc, .slice vsa ts'.length vsc, .slice ah2 g.hs.length ch2, .slice none 0 0, .slice aq2 g.qu.length cq2, .int .u64 0])) := (HX.out w5 HT5.out).1.trans (tR.below (HX.out w5 HT5.out).1.size (fun k hk => by rw [List.mem_singleton.1 hk]; exact HWs.out.2.2.2.2.1))
          have HR6 : Hid ((w5.setRow R4 #[.slice voa os'.length voc, .slice vsa ts'.length vsc, .slice ah2 g.hs.length ch2, .slice none 0 0, .slice aq2 g.qu.length cq2, .int .u64 0]).heap[R4]? = some (.cells #[.slice voa os'.length voc, .slice vsa ts'.length vsc, .slice ah2 g.hs.length ch2, .slice none 0 0, .slice aq2 g.qu.length cq2, .int .u64 0] 27 (0, 0))) := hR6
          clear tR hR6 oR HM5 HSo5 HI5 HJ5 r0
          go_wp2_with (refine wpList_store_row rfl 27 (.tmp 4) (.tmp 80) rfl R4 #[.slice voa os'.length voc, .slice vsa ts'.length vsc, .slice ah2 g.hs.length ch2, .slice none 0 0, .slice aq2 g.qu.length cq2, .int .u64 0] rfl rfl 27 _ HR5.out (by kernel_rfl) rfl (by simp [Value.oneCell']) ?_)
          clear HR5 HT5 HH5 c0 c1 c2 c3 c4 c5
          generalize w5.setRow R4 #[.slice voa os'.length voc, .slice vsa ts'.length vsc, .slice ah2 g.hs.length ch2, .slice none 0 0, .slice aq2 g.qu.length cq2, .int .u64 0] = w6 at *
          have HG6 := cut_grd (HGr.out.below (HB6.out.mono HNn.out)) (Nat.le_trans HNn.out HB6.out.size) HM6.out HOl.out HSo6.out HE.out HI6.out HJ6.out
          have HL6 := cut_len HM6.out HOl.out (fun y hy => (Nat.le_trans (Nat.le_add_right _ _) (HBG.out.r y hy)))
          have HS6 := sln_cut HBG.out.s HE.out
          have r0 := Kg.heap_cell HR6.out 0
          have r1 := Kg.heap_cell HR6.out 1
          have r2 := Kg.heap_cell HR6.out 2
          have r3 := Kg.heap_cell HR6.out 3
          have r4 := Kg.heap_cell HR6.out 4
          have r5 := Kg.heap_cell HR6.out 5
          refine bodyPost_ret (v := .agg (gcs (.slice voa os'.length voc) (.slice vsa ts'.length vsc) (.slice ah2 g.hs.length ch2) (.slice none 0 0) (.slice aq2 g.qu.length cq2) 0)) ?_ rfl ⟨_, _, _, _, _, rfl, os', ts', HG6, HOl.out, HS6, HL6, HB6.out⟩
          unfold results
          go_simp
end Go.Proofs.YtkekaifiahjljaaGreatDoor
