/-
  Growth by site: the document's Grown.
-/
import Derived.Test.YtckcdahjajmddaaLG7
import Derived.Laws.CopyOwn
import Derived.Deep.CutBlock
set_option linter.unusedVariables false
set_option maxRecDepth 20000
namespace Go.Proofs.Ytckcdahjajmddaa
open Go.RowKit Go.Maps Go.Sort Go.Shelf

/-- The sites of some objects, rising. -/
structure Rise (l : List (Int × Nat)) (cs : List Int) : Prop where
  r : cs.Pairwise (· < ·)
  m : ∀ x, x ∈ cs ↔ Lg.at' l x = true

theorem Rise.nil : Rise [] [] := ⟨List.Pairwise.nil, fun x => by simp [Lg.at']⟩

/-- It is there. -/
theorem Rise.old {l : List (Int × Nat)} {cs : List Int} (h : Rise l cs) {y : Int × Nat} (hy : y.1 ∈ cs) : Rise (l ++ [y]) cs :=
  ⟨h.r, fun x => by
    rw [h.m x, Lg.at_snoc]
    by_cases e : y.1 = x
    · subst e
      have := (h.m y.1).1 hy
      simp [this]
    · simp [e]⟩

/-- It is laid where it belongs. -/
theorem Rise.new {l : List (Int × Nat)} {cs : List Int} (h : Rise l cs) {y : Int × Nat} {at' : Nat} (h1 : ∀ x, x ∈ cs.take at' → x < y.1) (h2 : ∀ x, x ∈ cs.drop at' → y.1 < x) : Rise (l ++ [y]) (cs.take at' ++ y.1 :: cs.drop at') := by
  have hc : cs.take at' ++ cs.drop at' = cs := List.take_append_drop _ _
  have hp := h.r
  rw [← hc] at hp
  obtain ⟨p1, p2, p3⟩ := List.pairwise_append.1 hp
  refine ⟨List.pairwise_append.2 ⟨p1, List.pairwise_cons.2 ⟨h2, p2⟩, fun x hx z hz => ?_⟩, fun x => ?_⟩
  · rcases List.mem_cons.1 hz with rfl | hz
    · exact h1 x hx
    · exact p3 x hx z hz
  · have hm := h.m x
    rw [← hc, List.mem_append] at hm
    rw [Lg.at_snoc, List.mem_append, List.mem_cons]
    by_cases e : y.1 = x
    · simp [e]
    · have e' : ¬ x = y.1 := fun h => e h.symm
      simp [e, e', ← hm]

theorem Rise.sites {b a : List (Int × Nat)} {cs rs : List Int} (h : Rise (b ++ a) cs) (hs : Sites b a rs) : cs = rs := Lg.rise_ext h.r hs.r (fun x => by
  rw [h.m x, hs.m x]
  unfold Lg.at'
  rw [List.any_append])

theorem ints_at {cs : List Int} {j : Nat} {y : Int} (h : cs[j]? = some y) : (Kg.ints cs)[j]? = some (.int .i64 y) := by
  rw [Kg.ints, List.getElem?_map, h]
  rfl

theorem cl_at {cl : List Value} {cs : List Int} (ht : cl.take (cs.length + 1) = Kg.ints cs ++ [.int .i64 0]) {j : Nat} {y : Int} (h : cs[j]? = some y) : cl[j]? = some (.int .i64 y) := by
  have hl := (List.getElem?_eq_some_iff.1 h).1
  have h1 : (cl.take (cs.length + 1))[j]? = cl[j]? := by rw [List.getElem?_take, if_pos (by omega)]
  rw [← h1, ht, List.getElem?_append_left (by simp [Kg.ints]; omega)]
  exact ints_at h

/-- What stands there behind the copy, but for the one place. -/
def Ins (cs : List Int) (k : Nat) (cl : List Value) : Prop := ∀ (j : Nat) y, (j < k → cs[j]? = some y → cl[j]? = some (.int .i64 y)) ∧ (k < j → cs[j - 1]? = some y → cl[j]? = some (.int .i64 y))

theorem ins_none {cl : List Value} {cs : List Int} (ht : cl.take (cs.length + 1) = Kg.ints cs ++ [.int .i64 0]) {k : Nat} (hk : ¬ k < cs.length) (hk2 : k ≤ cs.length) : Ins cs k cl := fun j y => ⟨fun _ h => cl_at ht h, fun hj h => by
  have := (List.getElem?_eq_some_iff.1 h).1
  omega⟩

theorem ins_splice {cl : List Value} {cs : List Int} (ht : cl.take (cs.length + 1) = Kg.ints cs ++ [.int .i64 0]) {k : Nat} (hk : k < cs.length) (hl : cs.length + 1 ≤ cl.length) : Ins cs k (splice cl (k + 1) (Kg.ints (cs.drop k))) := fun j y => by
  have hil : (Kg.ints (cs.drop k)).length = cs.length - k := by simp [Kg.ints]
  refine ⟨fun hj h => ?_, fun hj h => ?_⟩
  · unfold splice
    rw [List.getElem?_append_left (by rw [List.length_take]; omega), List.getElem?_take, if_pos (by omega)]
    exact cl_at ht h
  · have hjl := (List.getElem?_eq_some_iff.1 h).1
    unfold splice
    rw [List.getElem?_append_right (by rw [List.length_take]; omega), List.length_take, Nat.min_eq_left (by omega), List.getElem?_append_left (by omega)]
    refine ints_at ?_
    rw [List.getElem?_drop]
    have e : k + (j - (k + 1)) = j - 1 := by omega
    rw [e]
    exact h

/-- The place is written: the sites with the new one. -/
theorem ins_row {cl : List Value} {cs : List Int} {k : Nat} (h : Ins cs k cl) (hk : k ≤ cs.length) (hl : cs.length + 1 ≤ cl.length) (s : Int) : (cl.set k (.int .i64 s)).take (cs.length + 1) = Kg.ints (cs.take k ++ s :: cs.drop k) := by
  refine List.ext_getElem? (fun j => ?_)
  have hlen : (cs.take k ++ s :: cs.drop k).length = cs.length + 1 := by simp; omega
  by_cases hj : j < cs.length + 1
  · rw [List.getElem?_take, if_pos hj]
    rcases Nat.lt_trichotomy j k with h1 | h1 | h1
    · have hc : cs[j]? = some (cs[j]'(by omega)) := List.getElem?_eq_getElem _
      rw [List.getElem?_set_ne (by omega), (h j _).1 h1 hc]
      refine (ints_at ?_).symm
      rw [List.getElem?_append_left (by rw [List.length_take]; omega), List.getElem?_take, if_pos h1]
      exact hc
    · subst h1
      rw [List.getElem?_set_self (by omega)]
      refine (ints_at ?_).symm
      rw [List.getElem?_append_right (by rw [List.length_take]; omega), List.length_take, Nat.min_eq_left hk, Nat.sub_self]
      rfl
    · have hc : cs[j - 1]? = some (cs[j - 1]'(by omega)) := List.getElem?_eq_getElem _
      rw [List.getElem?_set_ne (by omega), (h j _).2 h1 hc]
      refine (ints_at ?_).symm
      rw [List.getElem?_append_right (by rw [List.length_take]; omega), List.length_take, Nat.min_eq_left hk]
      obtain ⟨m, hm⟩ : ∃ m, j - k = m + 1 := ⟨j - k - 1, by omega⟩
      rw [hm, List.getElem?_cons_succ, List.getElem?_drop]
      have e : k + m = j - 1 := by omega
      rw [e]
      exact hc
  · rw [List.getElem?_eq_none (by rw [List.length_take]; omega), List.getElem?_eq_none (by simp only [Kg.ints, List.length_map, hlen]; omega)]

theorem infoI : (Try.prog.info? 3).map (fun i => (i.zero, i.size, i.bytes)) = some (some (.int .i64 0), 1, 8) := by kernel_rfl

set_option maxHeartbeats 8000000 in
theorem r17Grown_any (n0 : Nat) (w : World) (hn0 : n0 ≤ w.heap.size) (vo vs vh vr vq : Value) (os : List OL) (ts : List (Value × List (Value × List Int))) (g : Im.Gr) (hg : Grd n0 w vo vs vh vr vq os ts g) (hb : Swb os)
    (vo' vs' vh' vr' vq' : Value) (os' : List OL) (ts' : List (Value × List (Value × List Int))) (g' : Im.Gr) (hg' : Grd n0 w vo' vs' vh' vr' vq' os' ts' g') (hb' : Swb os') (rs : List Int) (hrs : Sites (sws os) (sws os') rs) :
    Calls Try.prog 6 #[.agg (gcs vo vs vh vr vq g.next), .agg (gcs vo' vs' vh' vr' vq' g'.next)] w fun e w' => ∃ v, e = .returned v ∧ Gl w' w.heap.size v (Lg.gls (sws os) (sws os') rs) ∧ Below w.heap.size w w' := by
  have HG : Hid (∀ w', Below w.heap.size w w' → Grd n0 w' vo vs vh vr vq os ts g ∧ Grd n0 w' vo' vs' vh' vr' vq' os' ts' g') := fun w' b' => ⟨hg.below (b'.mono hn0), hg'.below (b'.mono hn0)⟩
  have HB : Hid (Swb os ∧ Swb os' ∧ Sites (sws os) (sws os') rs) := ⟨hb, hb', hrs⟩
  have HN : Hid (n0 ≤ w.heap.size) := hn0
  obtain ⟨aa, ac, rfl, -⟩ := hg.ob
  obtain ⟨ba, bc, rfl, -⟩ := hg.sl
  obtain ⟨ca, cc, rfl, -, -⟩ := hg.hs
  obtain ⟨da, dc, rfl, -, -⟩ := hg.rg
  obtain ⟨qa, qc, rfl, -, -⟩ := hg.qu
  obtain ⟨aa', ac', rfl, -⟩ := hg'.ob
  obtain ⟨ba', bc', rfl, -⟩ := hg'.sl
  obtain ⟨ca', cc', rfl, -, -⟩ := hg'.hs
  obtain ⟨da', dc', rfl, -, -⟩ := hg'.rg
  obtain ⟨qa', qc', rfl, -, -⟩ := hg'.qu
  have hl1 := hb.n
  have hl2 := hb'.n
  clear hg hg' hb hb' hrs hn0
  go_enter Try.func6, Try.ntmps6
  go_upto_region 1 with fail
  have l1 := Below.alloc (Below.refl w.heap.size w) (Nat.le_refl _) (.cells (gcs (.slice aa os.length ac) (.slice ba ts.length bc) (.slice ca g.hs.length cc) (.slice da g.rg.length dc) (.slice qa g.qu.length qc) g.next) 27)
  have x1 := heap_alloc_new w (.cells (gcs (.slice aa os.length ac) (.slice ba ts.length bc) (.slice ca g.hs.length cc) (.slice da g.rg.length dc) (.slice qa g.qu.length qc) g.next) 27 (0, 0))
  have s1 : (w.alloc (.cells (gcs (.slice aa os.length ac) (.slice ba ts.length bc) (.slice ca g.hs.length cc) (.slice da g.rg.length dc) (.slice qa g.qu.length qc) g.next) 27)).heap.size = w.heap.size + 1 := by simp
  have l2 := Below.alloc l1 l1.size (.cells (gcs (.slice aa' os'.length ac') (.slice ba' ts'.length bc') (.slice ca' g'.hs.length cc') (.slice da' g'.rg.length dc') (.slice qa' g'.qu.length qc') g'.next) 27)
  have x2 := heap_alloc_new (w.alloc (.cells (gcs (.slice aa os.length ac) (.slice ba ts.length bc) (.slice ca g.hs.length cc) (.slice da g.rg.length dc) (.slice qa g.qu.length qc) g.next) 27)) (.cells (gcs (.slice aa' os'.length ac') (.slice ba' ts'.length bc') (.slice ca' g'.hs.length cc') (.slice da' g'.rg.length dc') (.slice qa' g'.qu.length qc') g'.next) 27 (0, 0))
  have y1 := (Below.heap_alloc (w.alloc (.cells (gcs (.slice aa os.length ac) (.slice ba ts.length bc) (.slice ca g.hs.length cc) (.slice da g.rg.length dc) (.slice qa g.qu.length qc) g.next) 27)) (.cells (gcs (.slice aa' os'.length ac') (.slice ba' ts'.length bc') (.slice ca' g'.hs.length cc') (.slice da' g'.rg.length dc') (.slice qa' g'.qu.length qc') g'.next) 27 (0, 0)) _ (Kg.heap_lt x1)).trans x1
  have s2 : ((w.alloc (.cells (gcs (.slice aa os.length ac) (.slice ba ts.length bc) (.slice ca g.hs.length cc) (.slice da g.rg.length dc) (.slice qa g.qu.length qc) g.next) 27)).alloc (.cells (gcs (.slice aa' os'.length ac') (.slice ba' ts'.length bc') (.slice ca' g'.hs.length cc') (.slice da' g'.rg.length dc') (.slice qa' g'.qu.length qc') g'.next) 27)).heap.size = w.heap.size + 2 := by simp
  rw [s1] at x2
  change Code.wp _ _ _ _ ((w.alloc (.cells (gcs (.slice aa os.length ac) (.slice ba ts.length bc) (.slice ca g.hs.length cc) (.slice da g.rg.length dc) (.slice qa g.qu.length qc) g.next) 27)).alloc (.cells (gcs (.slice aa' os'.length ac') (.slice ba' ts'.length bc') (.slice ca' g'.hs.length cc') (.slice da' g'.rg.length dc') (.slice qa' g'.qu.length qc') g'.next) 27))
  generalize (w.alloc (.cells (gcs (.slice aa os.length ac) (.slice ba ts.length bc) (.slice ca g.hs.length cc) (.slice da g.rg.length dc) (.slice qa g.qu.length qc) g.next) 27)).alloc (.cells (gcs (.slice aa' os'.length ac') (.slice ba' ts'.length bc') (.slice ca' g'.hs.length cc') (.slice da' g'.rg.length dc') (.slice qa' g'.qu.length qc') g'.next) 27) = W at *
  have HX : Hid (∀ w', Below W.heap.size W w' → Below w.heap.size w w' ∧ w'.heap[w.heap.size]? = some (.cells (gcs (.slice aa os.length ac) (.slice ba ts.length bc) (.slice ca g.hs.length cc) (.slice da g.rg.length dc) (.slice qa g.qu.length qc) g.next) 27 (0, 0)) ∧ w'.heap[w.heap.size + 1]? = some (.cells (gcs (.slice aa' os'.length ac') (.slice ba' ts'.length bc') (.slice ca' g'.hs.length cc') (.slice da' g'.rg.length dc') (.slice qa' g'.qu.length qc') g'.next) 27 (0, 0))) := fun w' b' => ⟨l2.trans (b'.mono (by omega)), (b'.block _ (Kg.heap_lt y1)).trans y1, (b'.block _ (Kg.heap_lt x2)).trans x2⟩
  clear l1 x1 s1 l2 x2 y1
  generalize hA : w.heap.size = A at *
  obtain ⟨i0, hi0, hj0, hj1, hj2⟩ := info_parts infoO
  have HI : Hid (Try.prog.info? 58 = some i0 ∧ i0.zero = some (.agg (ocs 0 0 0 (.slice none 0 0) (.slice none 0 0))) ∧ i0.size = 5 ∧ i0.bytes = 72) := ⟨hi0, hj0, hj1, hj2⟩
  clear hi0 hj0 hj1 hj2
  have k0 := (Kg.heap_cell (HX.out W (Below.refl _ _)).2.1 0).trans (show _ = some (Value.slice aa os.length ac) from rfl)
  have o1 := (HG.out W (HX.out W (Below.refl _ _)).1).1.ob
  have HS1 : Hid (∀ (j : Nat) u, (ofl os)[j]? = some u → ∃ ad, aa = some ad ∧ W.cell? (ad.add j) = some u) := o1.src
  have HU1 : Hid (∀ u ∈ ofl os, u.oneCell' = true) := ofl_one o1
  clear o1
  go_upto_region 3 with (at_builtin; refine wpList_append_rows rfl _ _ 22 rfl W.heap.size 58 i0 (.agg (ocs 0 0 0 (.slice none 0 0) (.slice none 0 0))) 5 72 Try.underlying22 HI.out.1 HI.out.2.1 HI.out.2.2.1 HI.out.2.2.2 rfl (by decide) (.slice none 0 0) 0 [] rfl (World.ownsRow_nil _ _ _ _) aa os.length ac (ofl os) rfl (ofl_len os) HS1.out HU1.out (by simp only [maxLen]; omega) (by omega) (Nat.le_refl _) ?_; intro v1 w1 r1 g1 _)
  have g1 : W.grownBy w1 none := g1
  rw [Nat.zero_add, List.nil_append] at r1
  have b1 : Below W.heap.size W w1 := (Kg.Touch.grown (F := []) g1 (fun k hk => by cases hk)).below (Nat.le_refl _) (fun k hk => by cases hk)
  obtain ⟨a1, c1, rfl⟩ := own_slI r1
  have hWA : A ≤ W.heap.size := by have := (HX.out W (Below.refl _ _)).1.size; omega
  have k1 := (Kg.heap_cell (HX.out w1 b1).2.2 0).trans (show _ = some (Value.slice aa' os'.length ac') from rfl)
  have o1 := (HG.out w1 (HX.out w1 b1).1).2.ob
  have HS2 : Hid (∀ (j : Nat) u, (ofl os')[j]? = some u → ∃ ad, aa' = some ad ∧ w1.cell? (ad.add j) = some u) := o1.src
  have HU2 : Hid (∀ u ∈ ofl os', u.oneCell' = true) := ofl_one o1
  have HR1 : Hid (w1.ownsRow W.heap.size 58 5 (.slice a1 os.length c1) os.length (ofl os)) := r1
  have HB1 : Hid (Below W.heap.size W w1) := b1
  clear o1 r1 g1 b1 HS1 HU1 k0
  go_upto_region 4 with (at_builtin; refine wpList_append_rows rfl _ _ 22 rfl W.heap.size 58 i0 (.agg (ocs 0 0 0 (.slice none 0 0) (.slice none 0 0))) 5 72 Try.underlying22 HI.out.1 HI.out.2.1 HI.out.2.2.1 HI.out.2.2.2 rfl (by decide) (.slice a1 os.length c1) os.length (ofl os) rfl HR1.out aa' os'.length ac' (ofl os') rfl (ofl_len os') HS2.out HU2.out (by simp only [maxLen]; omega) (by omega) HB1.out.size ?_; intro v2 w2 r2 g2 _)
  have g2 : w1.grownBy w2 (Value.slice a1 os.length c1).ownBlock := g2
  have b2 : Below W.heap.size W w2 := HB1.out.trans ((Kg.Touch.grown (F := (Value.slice a1 os.length c1).ownBlock.toList) g2 (fun k hk => by rw [Option.mem_toList]; exact hk.symm ▸ rfl)).below HB1.out.size (fun k hk => by rw [Option.mem_toList] at hk; exact (HR1.out.lt k hk).1))
  obtain ⟨a2, c2, rfl⟩ := own_slI r2
  rw [← ofl_append] at r2
  have HL : Hid (∀ (i : Nat) x, (os ++ os')[i]? = some x → ∃ q, a2 = some ⟨q, 0, none⟩ ∧ q < w2.heap.size ∧ w2.cell? ⟨q, i * 5 + 2, none⟩ = some (.int .i64 x.o.site)) := fun i x hx => by
    obtain ⟨a', cap', h1, h2, h3⟩ := row_at (Kg.row_base r2 (Nat.zero_le _)) (by decide)
    cases h1
    obtain ⟨q, k1, k2, k3⟩ := h3 (i * 5 + 2) (.int .i64 x.o.site) (by rw [ofl_at _ i 2 x hx (by omega)]; rfl)
    exact ⟨q, k1, k2, k3⟩
  have HX2 : Hid (∀ w', Below w2.heap.size w2 w' → Below A w w' ∧ w'.heap[A]? = some (.cells (gcs (.slice aa os.length ac) (.slice ba ts.length bc) (.slice ca g.hs.length cc) (.slice da g.rg.length dc) (.slice qa g.qu.length qc) g.next) 27 (0, 0)) ∧ w'.heap[A + 1]? = some (.cells (gcs (.slice aa' os'.length ac') (.slice ba' ts'.length bc') (.slice ca' g'.hs.length cc') (.slice da' g'.rg.length dc') (.slice qa' g'.qu.length qc') g'.next) 27 (0, 0))) := fun w' b' => HX.out w' (b2.trans (b'.mono b2.size))
  have hw2 : A ≤ w2.heap.size := by have := b2.size; omega
  obtain ⟨i1, hi1, hj0, hj1, hj2⟩ := info_parts infoI
  have HJ : Hid (Try.prog.info? 3 = some i1 ∧ i1.zero = some (.int .i64 0) ∧ i1.size = 1 ∧ i1.bytes = 8) := ⟨hi1, hj0, hj1, hj2⟩
  clear hi1 hj0 hj1 hj2 r2 g2 b2 HR1 HB1 HS2 HU2 k1 HX hWA
  generalize hol : os ++ os' = ol at *
  have hlo : os.length + os'.length = ol.length := by rw [← hol, List.length_append]
  rw [hlo]
  have Hol : Hid (os ++ os' = ol) := hol
  clear hol
  go_wp2
  go_loopw [5, 7, 8] (fun v5 v7 v8 wr => ∃ (i : Nat) (cs : List Int), i ≤ ol.length ∧ v7 = .int .i64 i ∧ cs.length ≤ i ∧ Hid (Below w2.heap.size w2 wr ∧ wr.ownsRow w2.heap.size 3 1 v5 cs.length (Kg.ints cs) ∧ Rise (sws (ol.take i)) cs)) (fun _ v7 _ _ => ol.length - (intOf v7).toNat)
  case atStart => exact ⟨0, [], Nat.zero_le _, rfl, Nat.le_refl _, Below.refl _ _, World.ownsRow_nil _ _ _ _, Rise.nil⟩
  case round =>
    obtain ⟨i, cs, hi, rfl, hcl, HR⟩ := hrel
    obtain ⟨a5, c5, rfl⟩ := own_slI HR.out.2.1
    by_cases hil : i < ol.length
    · have hiI : (i : Int) < (ol.length : Int) := by omega
      have hz : ol[i]? = some (ol[i]'hil) := List.getElem?_eq_getElem hil
      generalize ol[i]'hil = x at hz
      obtain ⟨q, rfl, hq, hce⟩ := HL.out i x hz
      have cq := (HR.out.1.cell (p := ⟨q, i * 5 + 2, none⟩) hq).trans hce
      have Hz : Hid (sws (ol.take (i + 1)) = sws (ol.take i) ++ [sw x.o]) := sws_take hz
      have Hce : Hid (q < w2.heap.size ∧ w2.cell? ⟨q, i * 5 + 2, none⟩ = some (.int .i64 x.o.site)) := ⟨hq, hce⟩
      clear hce hz
      go_upto_block 2 with fail
      have HC5 : Hid (∀ (k : Nat) y, cs[k]? = some y → ∃ g5, a5 = some ⟨g5, 0, none⟩ ∧ g5 < wr.heap.size ∧ wr.cell? ⟨g5, k, none⟩ = some (.int .i64 y)) := fun k y hy => by
        obtain ⟨a', cap', h1, h2, h3⟩ := row_at (Kg.row_base HR.out.2.1 (Nat.zero_le _)) (by decide)
        cases h1
        obtain ⟨q', k1, k2, k3⟩ := h3 k (.int .i64 y) (by rw [Kg.ints, List.getElem?_map, hy]; rfl)
        exact ⟨q', k1, k2, k3⟩
      have hq3 : q < wr.heap.size := Nat.lt_of_lt_of_le hq HR.out.1.size
      obtain ⟨w3, hw3⟩ : ∃ w3, w3 = wr := ⟨_, rfl⟩
      subst hw3
      go_cut [8] from 28 to 80 (fun v8 wq => ∃ k : Nat, k ≤ cs.length ∧ v8 = .int .i64 k ∧ Hid (Below w3.heap.size w3 wq ∧ (∀ y, y ∈ cs.take k → y < x.o.site) ∧ ∀ y, cs[k]? = some y → ¬ y < x.o.site))
      case first =>
        go_wp2
        go_loopw [8] (fun v8 wr => ∃ k : Nat, k ≤ cs.length ∧ v8 = .int .i64 k ∧ Hid (Below w3.heap.size w3 wr ∧ ∀ y, y ∈ cs.take k → y < x.o.site)) (fun v8 _ => cs.length - (intOf v8).toNat)
        case atStart => exact ⟨0, Nat.zero_le _, rfl, Below.refl _ _, fun y hy => by simp at hy⟩
        case round =>
          obtain ⟨k, hk, rfl, HK⟩ := hrel
          by_cases hkl : k < cs.length
          · have hkI : (k : Int) < (cs.length : Int) := by omega
            have hzk : cs[k]? = some (cs[k]'hkl) := List.getElem?_eq_getElem hkl
            generalize cs[k]'hkl = y at hzk
            obtain ⟨g5, rfl, hg5, hc5⟩ := HC5.out k y hzk
            have Hzk : Hid (cs[k]? = some y) := hzk
            clear hzk
            have hg5' : g5 < wr.heap.size := Nat.lt_of_lt_of_le hg5 HK.out.1.size
            have hq5 : q < wr.heap.size := Nat.lt_of_lt_of_le hq3 HK.out.1.size
            have d1 := (HK.out.1.cell (p := ⟨g5, k, none⟩) hg5).trans hc5
            have d2 := (HK.out.1.cell (p := ⟨q, i * 5 + 2, none⟩) hq3).trans cq
            haveI hinh : Inhabited (Kg.Bel wr) := ⟨⟨wr, Below.refl _ _⟩⟩
            have z1 : ∀ u : Kg.Bel wr, u.v.cell? ⟨g5, k, none⟩ = some (.int .i64 y) := fun u => (u.h.cell (p := ⟨g5, k, none⟩) hg5').trans d1
            have z2 : ∀ u : Kg.Bel wr, u.v.cell? ⟨q, i * 5 + 2, none⟩ = some (.int .i64 x.o.site) := fun u => (u.h.cell (p := ⟨q, i * 5 + 2, none⟩) hq5).trans d2
            clear d1 d2 hc5
            go_upto_region 8 with fail
            refine Kg.region_below Kg.mixed (by kernel_rfl) ?_
            repeat (go_big_quiet_step (fail))
            refine wpQuiet_nil ?_
            rintro w5 ⟨⟨w5, b5⟩, rfl⟩
            have HK5 : Hid (Below w3.heap.size w3 w5) := HK.out.1.trans (b5.mono HK.out.1.size)
            clear z1 z2 hinh b5
            by_cases hys : y < x.o.site
            · go_wp2
              go_roundw
              case rel => exact ⟨k + 1, by omega, by go_num, HK5.out, fun t ht => by
                rw [List.take_add_one, Hzk.out] at ht
                rcases List.mem_append.1 ht with h9 | h9
                · exact HK.out.2 t h9
                · simp at h9; omega⟩
              case measure => simp [intOf]; omega
            · go_wp2
              go_meet
              case rel => exact ⟨k, by omega, rfl, HK5.out, HK.out.2, fun t ht => by rw [Hzk.out] at ht; cases ht; exact hys⟩
          · have hkI : ¬ (k : Int) < (cs.length : Int) := by omega
            go_upto_region 8 with fail
            haveI hinh : Inhabited (Kg.Bel wr) := ⟨⟨wr, Below.refl _ _⟩⟩
            refine Kg.region_below Kg.mixed (by kernel_rfl) ?_
            repeat (go_big_quiet_step (fail))
            refine wpQuiet_nil ?_
            rintro w5 ⟨⟨w5, b5⟩, rfl⟩
            have HK5 : Hid (Below w3.heap.size w3 w5) := HK.out.1.trans (b5.mono HK.out.1.size)
            clear hinh b5
            go_wp2
            go_meet
            case rel => exact ⟨k, by omega, rfl, HK5.out, HK.out.2, fun t ht => by
              have := (List.getElem?_eq_some_iff.1 ht).1
              omega⟩
      obtain ⟨k, hk, rfl, HK⟩ := hcut
      obtain ⟨w4, hw4⟩ : ∃ w4, w4 = wc := ⟨_, rfl⟩
      subst hw4
      have hq4 : q < w4.heap.size := Nat.lt_of_lt_of_le hq3 HK.out.1.size
      have cq4 := (HK.out.1.cell (p := ⟨q, i * 5 + 2, none⟩) hq3).trans cq
      have HR4 : Hid (Below w2.heap.size w2 w4 ∧ w4.ownsRow w2.heap.size 3 1 (.slice a5 cs.length c5) cs.length (Kg.ints cs) ∧ Rise (sws (ol.take i)) cs) := ⟨HR.out.1.trans (HK.out.1.mono HR.out.1.size), Kg.row_keep2 HR.out.2.1 (Kg.Touch.of_below HK.out.1 []) (fun k _ => by simp), HR.out.2.2⟩
      have HC4 : Hid (∀ (k : Nat) y, cs[k]? = some y → ∃ g5, a5 = some ⟨g5, 0, none⟩ ∧ g5 < w4.heap.size ∧ w4.cell? ⟨g5, k, none⟩ = some (.int .i64 y)) := fun k y hy => by
        obtain ⟨g5, h1, h2, h3⟩ := HC5.out k y hy
        exact ⟨g5, h1, Nat.lt_of_lt_of_le h2 HK.out.1.size, (HK.out.1.cell (p := ⟨g5, k, none⟩) h2).trans h3⟩
      have HO : Hid ((∀ y, y ∈ cs.take k → y < x.o.site) ∧ ∀ y, cs[k]? = some y → ¬ y < x.o.site) := HK.out.2
      clear HK HR HC5 cq hq3
      by_cases heq : cs[k]? = some x.o.site
      · have hkl : k < cs.length := (List.getElem?_eq_some_iff.1 heq).1
        have hkI : (k : Int) < (cs.length : Int) := by omega
        obtain ⟨g5, rfl, hg5, hc5⟩ := HC4.out k _ heq
        haveI hinh : Inhabited (Kg.Bel w4) := ⟨⟨w4, Below.refl _ _⟩⟩
        have z1 : ∀ u : Kg.Bel w4, u.v.cell? ⟨g5, k, none⟩ = some (.int .i64 x.o.site) := fun u => (u.h.cell (p := ⟨g5, k, none⟩) hg5).trans hc5
        have z2 : ∀ u : Kg.Bel w4, u.v.cell? ⟨q, i * 5 + 2, none⟩ = some (.int .i64 x.o.site) := fun u => (u.h.cell (p := ⟨q, i * 5 + 2, none⟩) hq4).trans cq4
        have Heq : Hid (x.o.site ∈ cs) := List.mem_of_getElem? heq
        clear heq hc5
        go_upto_region 10 with fail
        refine Kg.region_below Kg.mixed (by kernel_rfl) ?_
        repeat (go_big_quiet_step (fail))
        refine wpQuiet_nil ?_
        rintro w5 ⟨⟨w5, b5⟩, rfl⟩
        have HR5 : Hid (Below w2.heap.size w2 w5 ∧ w5.ownsRow w2.heap.size 3 1 (.slice (some ⟨g5, 0, none⟩) cs.length c5) cs.length (Kg.ints cs) ∧ Rise (sws (ol.take (i + 1))) cs) := ⟨HR4.out.1.trans (b5.mono HR4.out.1.size), Kg.row_keep2 HR4.out.2.1 (Kg.Touch.of_below b5 []) (fun k _ => by simp), by rw [Hz.out]; exact HR4.out.2.2.old Heq.out⟩
        clear z1 z2 hinh b5
        go_wp2
        go_roundw
        case rel => exact ⟨i + 1, cs, by omega, by go_num, by omega, HR5.out⟩
        case measure => simp [intOf]; omega
      · have Hne : Hid (¬ cs[k]? = some x.o.site) := heq
        clear heq
        go_upto_region 10 with fail
        go_cut [61] from 46 to 61 (fun v61 wq => v61 = .bool false ∧ Hid (Below w4.heap.size w4 wq))
        case first =>
          by_cases hkl : k < cs.length
          · have hkI : (k : Int) < (cs.length : Int) := by omega
            have hzk : cs[k]? = some (cs[k]'hkl) := List.getElem?_eq_getElem hkl
            generalize cs[k]'hkl = y at hzk
            obtain ⟨g5, rfl, hg5, hc5⟩ := HC4.out k y hzk
            have hys : ¬ y = x.o.site := fun e => Hne.out (by rw [hzk, e])
            haveI hinh : Inhabited (Kg.Bel w4) := ⟨⟨w4, Below.refl _ _⟩⟩
            have z1 : ∀ u : Kg.Bel w4, u.v.cell? ⟨g5, k, none⟩ = some (.int .i64 y) := fun u => (u.h.cell (p := ⟨g5, k, none⟩) hg5).trans hc5
            have z2 : ∀ u : Kg.Bel w4, u.v.cell? ⟨q, i * 5 + 2, none⟩ = some (.int .i64 x.o.site) := fun u => (u.h.cell (p := ⟨q, i * 5 + 2, none⟩) hq4).trans cq4
            clear hzk hc5
            refine Kg.region_below Kg.mixed (by kernel_rfl) ?_
            repeat (go_big_quiet_step (fail))
            refine wpQuiet_nil ?_
            rintro w5 ⟨⟨w5, b5⟩, rfl⟩
            clear z1 z2 hinh
            go_wp2
            go_meet
            case rel => exact ⟨by simp [hys], b5⟩
          · have hkI : ¬ (k : Int) < (cs.length : Int) := by omega
            haveI hinh : Inhabited (Kg.Bel w4) := ⟨⟨w4, Below.refl _ _⟩⟩
            refine Kg.region_below Kg.mixed (by kernel_rfl) ?_
            repeat (go_big_quiet_step (fail))
            refine wpQuiet_nil ?_
            rintro w5 ⟨⟨w5, b5⟩, rfl⟩
            clear hinh
            go_wp2
            go_meet
            case rel => exact ⟨rfl, b5⟩
        obtain ⟨rfl, H5⟩ := hcut
        obtain ⟨w5, hw5⟩ : ∃ w5, w5 = wc := ⟨_, rfl⟩
        subst hw5
        have cq5 := (H5.out.cell (p := ⟨q, i * 5 + 2, none⟩) hq4).trans cq4
        have HR5 : Hid (Below w2.heap.size w2 w5 ∧ w5.ownsRow w2.heap.size 3 1 (.slice a5 cs.length c5) cs.length (Kg.ints cs) ∧ Rise (sws (ol.take i)) cs) := ⟨HR4.out.1.trans (H5.out.mono HR4.out.1.size), Kg.row_keep2 HR4.out.2.1 (Kg.Touch.of_below H5.out []) (fun k _ => by simp), HR4.out.2.2⟩
        have HO5 : Hid ((∀ y, y ∈ cs.take k → y < x.o.site) ∧ ∀ y, y ∈ cs.drop k → x.o.site < y) := ⟨HO.out.1, fun y hy => by
          obtain ⟨j, hj⟩ := List.getElem?_of_mem hy
          rw [List.getElem?_drop] at hj
          have hr := HR5.out.2.2.r
          have hjl := (List.getElem?_eq_some_iff.1 hj).1
          have hkl : k < cs.length := by omega
          have hzk : cs[k]? = some (cs[k]'hkl) := List.getElem?_eq_getElem hkl
          have h1 := HO.out.2 _ hzk
          have h2 : ¬ cs[k]'hkl = x.o.site := fun e => Hne.out (by rw [hzk, e])
          by_cases hj0 : j = 0
          · subst hj0
            rw [Nat.add_zero, hzk] at hj
            cases hj
            omega
          · have h3 := List.pairwise_iff_getElem.1 hr k (k + j) hkl hjl (by omega)
            have h4 : cs[k + j]'hjl = y := by rw [List.getElem?_eq_getElem hjl] at hj; exact Option.some.inj hj
            omega⟩
        have HSz : Hid (w2.heap.size ≤ w5.heap.size) := HR5.out.1.size
        clear HR4 HC4 HO Hne cq4 H5
        go_upto_region 12 with (at_builtin; refine wpList_append_own_at _ rfl _ _ 24 rfl w2.heap.size 3 i1 (.int .i64 0) 1 8 Try.underlying24 HJ.out.1 HJ.out.2.1 HJ.out.2.2.1 HJ.out.2.2.2 rfl (by decide) _ _ _ rfl (HR5.out.2.1.alloc _) ⟨w5.heap.size, 0, none⟩ 1 1 [.int .i64 0] rfl rfl (cell_one_new _ _ _) (by simp [Value.oneCell']) (by simp only [maxLen]; omega) (by omega) (by have := HSz.out; simp; omega) ?_; intro v6 w6 r6 g6 _ _)
        have b6 : Below w2.heap.size w2 w6 := by
          have b9 := Below.alloc (Below.refl w5.heap.size w5) (Nat.le_refl _) (.cells #[.int .i64 0] 3)
          have g6 : (w5.alloc (.cells #[.int .i64 0] 3)).grownBy w6 (Value.slice a5 cs.length c5).ownBlock := g6
          refine HR5.out.1.trans ((b9.mono HSz.out).trans ((Kg.Touch.grown (F := (Value.slice a5 cs.length c5).ownBlock.toList) g6 (fun k hk => by rw [Option.mem_toList]; exact hk.symm ▸ rfl)).below (by have := HSz.out; simp; omega) (fun k hk => ?_)))
          rw [Option.mem_toList] at hk
          exact (HR5.out.2.1.lt k hk).1
        obtain ⟨gb, c6, cur, rfl, hgb, hcur, hn6, hm6, hs6, ht6⟩ : ∃ gb c6 cur, v6 = .slice (some ⟨gb, 0, none⟩) (cs.length + 1) c6 ∧ w2.heap.size ≤ gb ∧ w6.heap[gb]? = some (.cells cur 3 (0, 0)) ∧ cs.length + 1 ≤ c6 ∧ c6 ≤ maxLen ∧ cur.size = c6 * 1 ∧ cur.toList.take ((cs.length + 1) * 1) = Kg.ints cs ++ [.int .i64 0] := by
          rcases r6.2 with ⟨-, h⟩ | ⟨gb, c6, cur, h⟩
          · omega
          · exact ⟨gb, c6, cur, h⟩
        have HB6 : Hid (Below w2.heap.size w2 w6 ∧ w2.heap.size ≤ gb ∧ w6.heap[gb]? = some (.cells cur.toList.toArray 3 (0, 0)) ∧ c6 ≤ maxLen ∧ cur.toList.length = c6 ∧ cur.toList.take (cs.length + 1) = Kg.ints cs ++ [.int .i64 0]) := ⟨b6, hgb, by simpa using hcur, hm6, by simpa using hs6, by simpa using ht6⟩
        generalize cur.toList = cl at *
        clear b6 hgb hcur hm6 hs6 ht6 r6 g6 cur
        have HR7 : Hid (Rise (sws (ol.take (i + 1))) (cs.take k ++ x.o.site :: cs.drop k)) := by
          show Rise _ _
          rw [Hz.out]
          exact HR5.out.2.2.new (y := sw x.o) HO5.out.1 HO5.out.2
        have hcc : k + 1 ≤ c6 := by omega
        have hkk : (k : Int) + 1 ≤ (cs.length : Int) + 1 := by omega
        have hi64 : (Try.prog.info? 3).map (·.size) = some 1 := by rw [HJ.out.1]; simp [HJ.out.2.2.1]
        go_cut [] from 65 to 72 (fun wq => ∃ cl', Hid (Below w2.heap.size w2 wq ∧ wq.heap[gb]? = some (.cells (cl' : List Value).toArray 3 (0, 0)) ∧ cl'.length = c6 ∧ Ins cs k cl'))
        case first =>
          by_cases hkl : k < cs.length
          · have hne1 : ¬ c6 = k + 1 := by omega
            have hne2 : ¬ c6 = k := by omega
            refine Kg.quiet_tail 7 Kg.mixed (by kernel_rfl) ?_
            simp only [List.take_succ_cons, List.take_zero, List.drop_succ_cons, List.drop_zero]
            repeat (go_big_quiet_step (fail))
            refine wpQuiet_nil ?_
            have hgd : w6.drew.heap[gb]? = some (.cells cl.toArray 3 (0, 0)) := HB6.out.2.2.1
            have hcl : cl.length = c6 := HB6.out.2.2.2.2.1
            refine wpList_copy_splice rfl (.tmp 68) (.tmp 71) 24 24 rfl 3 Try.underlying24 hi64 _ _ _ _ _ _ rfl rfl gb (k + 1) cl 3 hgd (Kg.ints (cs.drop k)) (by rw [Kg.ints, List.length_map, List.length_drop]; show _ = min _ _; omega) (fun _ => ⟨rfl, _, rfl, fun j v hj => ?_⟩) (by simp [Kg.ints]; omega) (fun v hv => by obtain ⟨z, -, rfl⟩ := List.mem_map.1 hv; rfl) w2.heap.size w2 HB6.out.1.drew HB6.out.2.1 ?_
            · rw [Kg.ints, List.getElem?_map] at hj
              obtain ⟨z, hz, rfl⟩ := Option.map_eq_some_iff.1 hj
              rw [List.getElem?_drop] at hz
              rw [Addr.add_lit, Kg.heap_cell hgd]
              have h9 := cl_at HB6.out.2.2.2.2.2 hz
              simpa using h9
            · intro w7 h7 b7
              have FIN : Hid (∃ cl', Hid (Below w2.heap.size w2 w7 ∧ w7.heap[gb]? = some (.cells (cl' : List Value).toArray 3 (0, 0)) ∧ cl'.length = c6 ∧ Ins cs k cl')) := ⟨_, b7, h7.out, by rw [length_splice _ _ _ (by simp [Kg.ints]; omega)]; exact hcl, ins_splice HB6.out.2.2.2.2.2 hkl (by omega)⟩
              clear h7 b7 hgd
              go_wp2
              go_meet
              case rel => exact FIN.out
          · have hk9 : k = cs.length := by omega
            have hgd : w6.drew.heap[gb]? = some (.cells cl.toArray 3 (0, 0)) := HB6.out.2.2.1
            have FIN : Hid (∃ cl', Hid (Below w2.heap.size w2 w6.drew ∧ w6.drew.heap[gb]? = some (.cells (cl' : List Value).toArray 3 (0, 0)) ∧ cl'.length = c6 ∧ Ins cs k cl')) := ⟨cl, HB6.out.1.drew, hgd, HB6.out.2.2.2.2.1, ins_none HB6.out.2.2.2.2.2 hkl (by omega)⟩
            clear hgd
            have hne2 : ¬ c6 = k := by omega
            have Hk9 : Hid (k = cs.length) := hk9
            clear hk9
            by_cases hne1 : c6 = k + 1
            · refine Kg.quiet_tail 7 Kg.mixed (by kernel_rfl) ?_
              simp only [List.take_succ_cons, List.take_zero, List.drop_succ_cons, List.drop_zero]
              repeat (go_big_quiet_step (fail))
              refine wpQuiet_nil ?_
              refine wpList_copy_nothing rfl (.tmp 68) (.tmp 71) 24 24 rfl 3 Try.underlying24 hi64 _ _ _ _ _ _ rfl rfl (by have := Hk9.out; simp; omega) ?_
              go_wp2
              go_meet
              case rel => exact FIN.out
            · refine Kg.quiet_tail 7 Kg.mixed (by kernel_rfl) ?_
              simp only [List.take_succ_cons, List.take_zero, List.drop_succ_cons, List.drop_zero]
              repeat (go_big_quiet_step (fail))
              refine wpQuiet_nil ?_
              refine wpList_copy_nothing rfl (.tmp 68) (.tmp 71) 24 24 rfl 3 Try.underlying24 hi64 _ _ _ _ _ _ rfl rfl (by have := Hk9.out; simp; omega) ?_
              go_wp2
              go_meet
              case rel => exact FIN.out
        obtain ⟨cl', HC7⟩ := hcut
        obtain ⟨w7, hw7⟩ : ∃ w7, w7 = wc := ⟨_, rfl⟩
        subst hw7
        have cq7 := (HC7.out.1.cell (p := ⟨q, i * 5 + 2, none⟩) Hce.out.1).trans Hce.out.2
        have hkc : k < cl'.length := by have := HC7.out.2.2.1; omega
        have d7 : w7.cell? ⟨gb, k, none⟩ = some (cl'[k]'hkc) := by rw [Kg.heap_cell HC7.out.2.1 k]; simp [hkc]
        have f7 := Kg.heap_frozen HC7.out.2.1 k
        have hkI : (k : Int) < (cs.length : Int) + 1 := by omega
        generalize cl'[k]'hkc = old at d7
        go_upto_region 6 with fail
        have hs7 := Kg.heap_set HC7.out.2.1 k (.int .i64 x.o.site)
        have b8 : Below w2.heap.size w2 (w7.setCell ⟨gb, k, none⟩ (.int .i64 x.o.site)) := Below.setCell HC7.out.1 HB6.out.2.1 _
        have hrow : (cs.take k ++ x.o.site :: cs.drop k).length = cs.length + 1 := by simp; omega
        have HR8 : Hid (Below w2.heap.size w2 (w7.setCell ⟨gb, k, none⟩ (.int .i64 x.o.site)) ∧ (w7.setCell ⟨gb, k, none⟩ (.int .i64 x.o.site)).ownsRow w2.heap.size 3 1 (.slice (some ⟨gb, 0, none⟩) (cs.length + 1) c6) (cs.take k ++ x.o.site :: cs.drop k).length (Kg.ints (cs.take k ++ x.o.site :: cs.drop k)) ∧ Rise (sws (ol.take (i + 1))) (cs.take k ++ x.o.site :: cs.drop k)) := by
          refine ⟨b8, ⟨by simp [Kg.ints], .inr ⟨gb, c6, (cl'.set k (.int .i64 x.o.site)).toArray, by rw [hrow], HB6.out.2.1, by rw [hs7]; simp, by rw [hrow]; exact hn6, HB6.out.2.2.2.1, by simp; exact HC7.out.2.2.1, ?_⟩⟩, HR7.out⟩
          rw [hrow, Nat.mul_one]
          exact ins_row HC7.out.2.2.2 hk (by have := HC7.out.2.2.1; omega) _
        clear hs7 b8 cq7 d7 f7 HC7
        generalize w7.setCell ⟨gb, k, none⟩ (.int .i64 x.o.site) = w8 at *
        go_wp2
        go_roundw
        case rel => exact ⟨i + 1, cs.take k ++ x.o.site :: cs.drop k, by omega, by go_num, by omega, HR8.out⟩
        case measure => simp [intOf]; omega
    · have hiI : ¬ (i : Int) < (ol.length : Int) := by omega
      have e9 : ol.take i = ol := List.take_of_length_le (by omega)
      rw [e9] at HR
      have ecs : cs = rs := by
        have h9 := HR.out.2.2
        rw [← Hol.out] at h9
        have e8 : sws (os ++ os') = sws os ++ sws os' := by simp [sws]
        rw [e8] at h9
        exact h9.sites HB.out.2.2
      subst ecs
      obtain ⟨w3, hw3⟩ : ∃ w3, w3 = wr := ⟨_, rfl⟩
      subst hw3
      have HX3 : Hid (∀ w', Below w3.heap.size w3 w' → Below A w w' ∧ w'.heap[A]? = some (.cells (gcs (.slice aa os.length ac) (.slice ba ts.length bc) (.slice ca g.hs.length cc) (.slice da g.rg.length dc) (.slice qa g.qu.length qc) g.next) 27 (0, 0)) ∧ w'.heap[A + 1]? = some (.cells (gcs (.slice aa' os'.length ac') (.slice ba' ts'.length bc') (.slice ca' g'.hs.length cc') (.slice da' g'.rg.length dc') (.slice qa' g'.qu.length qc') g'.next) 27 (0, 0))) := fun w' b' => HX2.out w' (HR.out.1.trans (b'.mono HR.out.1.size))
      have HCS : Hid (∀ (k : Nat) y, cs[k]? = some y → ∃ g5, a5 = some ⟨g5, 0, none⟩ ∧ g5 < w3.heap.size ∧ w3.cell? ⟨g5, k, none⟩ = some (.int .i64 y)) := fun k y hy => by
        obtain ⟨a', cap', h1, h2, h3⟩ := row_at (Kg.row_base HR.out.2.1 (Nat.zero_le _)) (by decide)
        cases h1
        obtain ⟨q', k1, k2, k3⟩ := h3 k (.int .i64 y) (ints_at hy)
        exact ⟨q', k1, k2, k3⟩
      have hw3A : A ≤ w3.heap.size := by have := (HX3.out w3 (Below.refl _ _)).1.size; omega
      have hcsl : cs.length ≤ 200000000000 := by omega
      obtain ⟨i2, hi2, hj0, hj1, hj2⟩ := info_parts infoG
      have HK : Hid (Try.prog.info? 55 = some i2 ∧ i2.zero = some (.agg #[.int .i64 0, .int .i64 0, .int .i64 0]) ∧ i2.size = 3 ∧ i2.bytes = 24) := ⟨hi2, hj0, hj1, hj2⟩
      clear hi2 hj0 hj1 hj2 HR HX2 HL hcl
      go_wp2
      go_loopw [9, 10] (fun v9 v10 wr => ∃ j : Nat, j ≤ cs.length ∧ v10 = .int .i64 j ∧ Hid (Below w3.heap.size w3 wr ∧ Gl wr w3.heap.size v9 (Lg.gls (sws os) (sws os') (cs.take j)))) (fun _ v10 _ => cs.length - (intOf v10).toNat)
      case atStart => exact ⟨0, Nat.zero_le _, rfl, Below.refl _ _, World.ownsRow_nil _ _ _ _⟩
      case round =>
        obtain ⟨j, hj, rfl, HRR⟩ := hrel
        obtain ⟨a9, c9, rfl⟩ := own_slI HRR.out.2
        by_cases hjl : j < cs.length
        · have hjI : (j : Int) < (cs.length : Int) := by omega
          have hz : cs[j]? = some (cs[j]'hjl) := List.getElem?_eq_getElem hjl
          generalize cs[j]'hjl = y at hz
          obtain ⟨gs, rfl, hgs, hcs⟩ := HCS.out j y hz
          have HGS : Hid (Lg.gls (sws os) (sws os') (cs.take (j + 1)) = Lg.gls (sws os) (sws os') (cs.take j) ++ (if Lg.cnt (sws os') y - Lg.cnt (sws os) y = 0 ∧ Lg.wds (sws os') y - Lg.wds (sws os) y = 0 then [] else [(y, Lg.cnt (sws os') y - Lg.cnt (sws os) y, Lg.wds (sws os') y - Lg.wds (sws os) y)])) := by
            show _ = _
            rw [List.take_add_one, hz]
            exact Lg.gls_snoc _ _ _ _
          have q1 := cnt_le (sws os) y
          have q2 := wds_le (sws os) y
          have q3 := cnt_le (sws os') y
          have q4 := wds_le (sws os') y
          have t1 := HB.out.1.t
          have t2 := HB.out.2.1.t
          have n1 : (sws os).length = os.length := by simp [sws]
          have n2 : (sws os').length = os'.length := by simp [sws]
          have Hwr : Hid (Below w3.heap.size w3 wr) := HRR.out.1
          clear hz
          have hAx : wr.heap[A]? = some (.cells (gcs (.slice aa os.length ac) (.slice ba ts.length bc) (.slice ca g.hs.length cc) (.slice da g.rg.length dc) (.slice qa g.qu.length qc) g.next) 27 (0, 0)) := (HX3.out wr Hwr.out).2.1
          have hAl : A < wr.heap.size := Kg.heap_lt hAx
          have hgl : gs < wr.heap.size := Nat.lt_of_lt_of_le hgs Hwr.out.size
          have dS := (Hwr.out.cell (p := ⟨gs, j, none⟩) hgs).trans hcs
          haveI hinh : Inhabited (Kg.Bel wr) := ⟨⟨wr, Below.refl _ _⟩⟩
          have z0 : ∀ u : Kg.Bel wr, u.v.cell? ⟨A, 0, none⟩ = some (.slice aa os.length ac) := fun u => (u.h.cell (p := ⟨A, 0, none⟩) hAl).trans ((Kg.heap_cell hAx 0).trans rfl)
          have z1 : ∀ u : Kg.Bel wr, u.v.cell? ⟨A, 1, none⟩ = some (.slice ba ts.length bc) := fun u => (u.h.cell (p := ⟨A, 1, none⟩) hAl).trans ((Kg.heap_cell hAx 1).trans rfl)
          have z2 : ∀ u : Kg.Bel wr, u.v.cell? ⟨A, 2, none⟩ = some (.slice ca g.hs.length cc) := fun u => (u.h.cell (p := ⟨A, 2, none⟩) hAl).trans ((Kg.heap_cell hAx 2).trans rfl)
          have z3 : ∀ u : Kg.Bel wr, u.v.cell? ⟨A, 3, none⟩ = some (.slice da g.rg.length dc) := fun u => (u.h.cell (p := ⟨A, 3, none⟩) hAl).trans ((Kg.heap_cell hAx 3).trans rfl)
          have z4 : ∀ u : Kg.Bel wr, u.v.cell? ⟨A, 4, none⟩ = some (.slice qa g.qu.length qc) := fun u => (u.h.cell (p := ⟨A, 4, none⟩) hAl).trans ((Kg.heap_cell hAx 4).trans rfl)
          have z5 : ∀ u : Kg.Bel wr, u.v.cell? ⟨A, 5, none⟩ = some (.int .u64 (g.next : Int)) := fun u => (u.h.cell (p := ⟨A, 5, none⟩) hAl).trans ((Kg.heap_cell hAx 5).trans rfl)
          have zs : ∀ u : Kg.Bel wr, u.v.cell? ⟨gs, j, none⟩ = some (.int .i64 y) := fun u => (u.h.cell (p := ⟨gs, j, none⟩) hgl).trans dS
          have hC : ∀ u : Kg.Bel wr, Calls Try.prog 17 #[.agg #[.slice aa os.length ac, .slice ba ts.length bc, .slice ca g.hs.length cc, .slice da g.rg.length dc, .slice qa g.qu.length qc, .int .u64 (g.next : Int)], .int .i64 y] u.v fun e w' => e = .returned (.tuple #[.int .i64 (Lg.cnt (sws os) y), .int .i64 (Lg.wds (sws os) y)]) ∧ Below u.v.heap.size u.v w' := fun u => r17count_any n0 u.v (by have := HN.out; have := u.h.size; have := Hwr.out.size; omega) _ _ _ _ _ os ts g (HG.out u.v ((HX3.out wr Hwr.out).1.trans (u.h.mono (by have := (HX3.out wr Hwr.out).1.size; omega)))).1 HB.out.1 y
          go_upto_region 18 with fail
          refine Kg.region_below Kg.mixed (by kernel_rfl) ?_
          repeat (go_big_quiet_step (exact Kg.calls_bel (hC _)))
          refine wpQuiet_nil ?_
          rintro w5 ⟨⟨w5, bY⟩, rfl⟩
          have Hw5 : Hid (Below w3.heap.size w3 w5) := Hwr.out.trans (bY.mono Hwr.out.size)
          have Tw5 : Hid (Kg.Touch [] wr w5) := Kg.Touch.of_below bY _
          clear hC z0 z1 z2 z3 z4 z5 zs hinh bY dS hgl hAl hAx
          have hAx : w5.heap[A + 1]? = some (.cells (gcs (.slice aa' os'.length ac') (.slice ba' ts'.length bc') (.slice ca' g'.hs.length cc') (.slice da' g'.rg.length dc') (.slice qa' g'.qu.length qc') g'.next) 27 (0, 0)) := (HX3.out w5 Hw5.out).2.2
          have hAl : A + 1 < w5.heap.size := Kg.heap_lt hAx
          have hgl : gs < w5.heap.size := Nat.lt_of_lt_of_le hgs Hw5.out.size
          have dS := (Hw5.out.cell (p := ⟨gs, j, none⟩) hgs).trans hcs
          haveI hinh : Inhabited (Kg.Bel w5) := ⟨⟨w5, Below.refl _ _⟩⟩
          have z0 : ∀ u : Kg.Bel w5, u.v.cell? ⟨A + 1, 0, none⟩ = some (.slice aa' os'.length ac') := fun u => (u.h.cell (p := ⟨A + 1, 0, none⟩) hAl).trans ((Kg.heap_cell hAx 0).trans rfl)
          have z1 : ∀ u : Kg.Bel w5, u.v.cell? ⟨A + 1, 1, none⟩ = some (.slice ba' ts'.length bc') := fun u => (u.h.cell (p := ⟨A + 1, 1, none⟩) hAl).trans ((Kg.heap_cell hAx 1).trans rfl)
          have z2 : ∀ u : Kg.Bel w5, u.v.cell? ⟨A + 1, 2, none⟩ = some (.slice ca' g'.hs.length cc') := fun u => (u.h.cell (p := ⟨A + 1, 2, none⟩) hAl).trans ((Kg.heap_cell hAx 2).trans rfl)
          have z3 : ∀ u : Kg.Bel w5, u.v.cell? ⟨A + 1, 3, none⟩ = some (.slice da' g'.rg.length dc') := fun u => (u.h.cell (p := ⟨A + 1, 3, none⟩) hAl).trans ((Kg.heap_cell hAx 3).trans rfl)
          have z4 : ∀ u : Kg.Bel w5, u.v.cell? ⟨A + 1, 4, none⟩ = some (.slice qa' g'.qu.length qc') := fun u => (u.h.cell (p := ⟨A + 1, 4, none⟩) hAl).trans ((Kg.heap_cell hAx 4).trans rfl)
          have z5 : ∀ u : Kg.Bel w5, u.v.cell? ⟨A + 1, 5, none⟩ = some (.int .u64 (g'.next : Int)) := fun u => (u.h.cell (p := ⟨A + 1, 5, none⟩) hAl).trans ((Kg.heap_cell hAx 5).trans rfl)
          have zs : ∀ u : Kg.Bel w5, u.v.cell? ⟨gs, j, none⟩ = some (.int .i64 y) := fun u => (u.h.cell (p := ⟨gs, j, none⟩) hgl).trans dS
          have hC : ∀ u : Kg.Bel w5, Calls Try.prog 17 #[.agg #[.slice aa' os'.length ac', .slice ba' ts'.length bc', .slice ca' g'.hs.length cc', .slice da' g'.rg.length dc', .slice qa' g'.qu.length qc', .int .u64 (g'.next : Int)], .int .i64 y] u.v fun e w' => e = .returned (.tuple #[.int .i64 (Lg.cnt (sws os') y), .int .i64 (Lg.wds (sws os') y)]) ∧ Below u.v.heap.size u.v w' := fun u => r17count_any n0 u.v (by have := HN.out; have := u.h.size; have := Hw5.out.size; omega) _ _ _ _ _ os' ts' g' (HG.out u.v ((HX3.out w5 Hw5.out).1.trans (u.h.mono (by have := (HX3.out w5 Hw5.out).1.size; omega)))).2 HB.out.2.1 y
          go_upto_region 19 with fail
          refine Kg.region_below Kg.mixed (by kernel_rfl) ?_
          repeat (go_big_quiet_step (exact Kg.calls_bel (hC _)))
          refine wpQuiet_nil ?_
          rintro w6 ⟨⟨w6, bY⟩, rfl⟩
          have Hw6 : Hid (Below w3.heap.size w3 w6) := Hw5.out.trans (bY.mono Hw5.out.size)
          have Tw6 : Hid (Kg.Touch [] w5 w6) := Kg.Touch.of_below bY _
          clear hC z0 z1 z2 z3 z4 z5 zs hinh bY dS hgl hAl hAx
          have HG6 : Hid (Gl w6 w3.heap.size (.slice a9 (Lg.gls (sws os) (sws os') (cs.take j)).length c9) (Lg.gls (sws os) (sws os') (cs.take j))) := Kg.row_keep2 HRR.out.2 (Tw5.out.trans Tw6.out) (fun k _ => by simp)
          have dS := (Hw6.out.cell (p := ⟨gs, j, none⟩) hgs).trans hcs
          have hLl : (Lg.gls (sws os) (sws os') (cs.take j)).length ≤ cs.length := by
            have := Lg.gls_len (sws os) (sws os') (cs.take j)
            rw [List.length_take] at this
            omega
          generalize hLe : Lg.gls (sws os) (sws os') (cs.take j) = L at *
          have HCV : Hid (∃ C C' V V' : Int, Lg.cnt (sws os) y = C ∧ Lg.cnt (sws os') y = C' ∧ Lg.wds (sws os) y = V ∧ Lg.wds (sws os') y = V') := ⟨_, _, _, _, rfl, rfl, rfl, rfl⟩
          generalize Lg.cnt (sws os) y = C at *
          generalize Lg.cnt (sws os') y = C' at *
          generalize Lg.wds (sws os) y = V at *
          generalize Lg.wds (sws os') y = V' at *
          have r1 : -1000000000000 ≤ C ∧ C ≤ 1000000000000 := by omega
          have r2 : -1000000000000 ≤ C' ∧ C' ≤ 1000000000000 := by omega
          have r3 : -1000000000000000 ≤ V ∧ V ≤ 1000000000000000 := by omega
          have r4 : -1000000000000000 ≤ V' ∧ V' ≤ 1000000000000000 := by omega
          clear q1 q2 q3 q4 t1 t2 n1 n2 hcs HRR Tw5 Tw6 Hw5 Hwr HCV
          have HRow : Hid (∀ o, (w6.alloc o).ownsRow w3.heap.size 55 3 (.slice a9 L.length c9) L.length (gcl L)) := fun o => HG6.out.alloc o
          have FINI : Hid (∀ v8 w8 c0 c1 c2, w8.ownsRow w3.heap.size 55 3 v8 (L.length + 1) (gcl L ++ #[.int .i64 c0, .int .i64 c1, .int .i64 c2].toList) → (w6.alloc (.cells #[.int .i64 c0, .int .i64 c1, .int .i64 c2] 55)).grownBy w8 (Value.slice a9 L.length c9).ownBlock → Lg.gls (sws os) (sws os') (cs.take (j + 1)) = L ++ [(c0, c1, c2)] → Below w3.heap.size w3 w8 ∧ Gl w8 w3.heap.size v8 (Lg.gls (sws os) (sws os') (cs.take (j + 1)))) := fun v8 w8 c0 c1 c2 h8 g8 he => by
            refine ⟨Hw6.out.trans ?_, ?_⟩
            · have b9 := Below.alloc (Below.refl w6.heap.size w6) (Nat.le_refl _) (.cells #[.int .i64 c0, .int .i64 c1, .int .i64 c2] 55)
              refine (b9.mono Hw6.out.size).trans ((Kg.Touch.grown (F := (Value.slice a9 L.length c9).ownBlock.toList) g8 (fun k hk => by rw [Option.mem_toList]; exact hk.symm ▸ rfl)).below (by have := Hw6.out.size; simp; omega) (fun k hk => ?_))
              rw [Option.mem_toList] at hk
              exact (HG6.out.lt k hk).1
            · rw [he]
              show w8.ownsRow _ _ _ _ (L ++ [_]).length (gcl (L ++ [_]))
              rw [gcl_snoc, List.length_append]
              exact h8
          by_cases hC : C = C'
          · by_cases hV : V = V'
            · subst hC hV
              go_wp2
              go_roundw
              case rel => exact ⟨j + 1, by omega, by go_num, Hw6.out, by rw [HGS.out, if_pos ⟨by omega, by omega⟩, List.append_nil]; exact HG6.out⟩
              case measure => simp [intOf]; omega
            · have hb2 : (V != V') = true := by simpa using hV
              have HE : Hid (Lg.gls (sws os) (sws os') (cs.take (j + 1)) = L ++ [(y, 0, V' - V)]) := by
                show _ = _
                rw [HGS.out, if_neg (by omega)]
                have e0 : C' - C = 0 := by omega
                rw [e0]
              subst hC
              go_wp2_with (at_builtin; refine wpList_append_own_at _ rfl _ _ 39 rfl w3.heap.size 55 i2 (.agg #[.int .i64 0, .int .i64 0, .int .i64 0]) 3 24 Try.underlying39 HK.out.1 HK.out.2.1 HK.out.2.2.1 HK.out.2.2.2 rfl (by decide) _ _ _ rfl (HRow.out _) ⟨w6.heap.size, 0, none⟩ 1 1 (#[.int .i64 y, .int .i64 0, .int .i64 (V' - V)] : Array Value).toList rfl rfl (cells_new w6 _ _) (by simp [Value.oneCell']) (by simp only [maxLen]; omega) (by omega) (by have := Hw6.out.size; simp; omega) ?_; intro v8 w8 h8 g8 _ _)
              go_roundw
              case rel => exact ⟨j + 1, by omega, by go_num, (FINI.out v8 w8 _ _ _ h8 g8 HE.out).1, (FINI.out v8 w8 _ _ _ h8 g8 HE.out).2⟩
              case measure => simp [intOf]; omega
          · have hb1 : (C != C') = true := by simpa using hC
            have HE : Hid (Lg.gls (sws os) (sws os') (cs.take (j + 1)) = L ++ [(y, C' - C, V' - V)]) := by
              show _ = _
              rw [HGS.out, if_neg (by omega)]
            go_wp2_with (at_builtin; refine wpList_append_own_at _ rfl _ _ 39 rfl w3.heap.size 55 i2 (.agg #[.int .i64 0, .int .i64 0, .int .i64 0]) 3 24 Try.underlying39 HK.out.1 HK.out.2.1 HK.out.2.2.1 HK.out.2.2.2 rfl (by decide) _ _ _ rfl (HRow.out _) ⟨w6.heap.size, 0, none⟩ 1 1 (#[.int .i64 y, .int .i64 (C' - C), .int .i64 (V' - V)] : Array Value).toList rfl rfl (cells_new w6 _ _) (by simp [Value.oneCell']) (by simp only [maxLen]; omega) (by omega) (by have := Hw6.out.size; simp; omega) ?_; intro v8 w8 h8 g8 _ _)
            go_roundw
            case rel => exact ⟨j + 1, by omega, by go_num, (FINI.out v8 w8 _ _ _ h8 g8 HE.out).1, (FINI.out v8 w8 _ _ _ h8 g8 HE.out).2⟩
            case measure => simp [intOf]; omega
        · have hjI : ¬ (j : Int) < (cs.length : Int) := by omega
          have e9 : cs.take j = cs := List.take_of_length_le (by omega)
          rw [e9] at HRR
          go_wp2
          go_ret
          exact ⟨_, rfl, Kg.row_base HRR.out.2 hw3A, (HX3.out wr HRR.out.1).1⟩

end Go.Proofs.Ytckcdahjajmddaa
