import Derived.Test.YtckcdahjajmddaaIG2
import Derived.Test.YtckcdahjajmddaaPKm
import Derived.Deep.Cut
import Derived.Maps.AppendAt
import Derived.Maps.OwnSet
/-
  Growth by site, the pure side.
-/
set_option linter.unusedVariables false
namespace Go.Proofs.Ytckcdahjajmddaa
namespace Lg

/-- Objects by site and words: how many are of a site, and how many words they have. -/
def cnt (l : List (Int × Nat)) (s : Int) : Int := ((l.filter (fun x => decide (x.1 = s))).length : Nat)
def wds (l : List (Int × Nat)) (s : Int) : Int := (((l.filter (fun x => decide (x.1 = s))).map (fun x => x.2)).sum : Nat)

theorem cnt_nil (s : Int) : cnt [] s = 0 := rfl
theorem wds_nil (s : Int) : wds [] s = 0 := rfl
theorem cnt_snoc (l : List (Int × Nat)) (x : Int × Nat) (s : Int) : cnt (l ++ [x]) s = cnt l s + (if x.1 = s then 1 else 0) := by
  unfold cnt
  rw [List.filter_append, List.length_append]
  by_cases h : x.1 = s
  · simp [h]
  · simp [h]
theorem wds_snoc (l : List (Int × Nat)) (x : Int × Nat) (s : Int) : wds (l ++ [x]) s = wds l s + (if x.1 = s then (x.2 : Int) else 0) := by
  unfold wds
  rw [List.filter_append, List.map_append, List.sum_append]
  by_cases h : x.1 = s
  · simp [h]
  · simp [h]
theorem cnt_none {l : List (Int × Nat)} {s : Int} (h : ∀ x, x ∈ l → x.1 ≠ s) : cnt l s = 0 := by
  unfold cnt
  rw [List.filter_eq_nil_iff.2 (fun x hx => by simp [h x hx])]
  rfl
theorem wds_none {l : List (Int × Nat)} {s : Int} (h : ∀ x, x ∈ l → x.1 ≠ s) : wds l s = 0 := by
  unfold wds
  rw [List.filter_eq_nil_iff.2 (fun x hx => by simp [h x hx])]
  rfl

/-- Is there an object of this site? -/
def at' (l : List (Int × Nat)) (s : Int) : Bool := l.any (fun x => decide (x.1 = s))
theorem at_iff {l : List (Int × Nat)} {s : Int} : at' l s = true ↔ ∃ x, x ∈ l ∧ x.1 = s := by
  unfold at'
  simp
theorem at_snoc (l : List (Int × Nat)) (x : Int × Nat) (s : Int) : at' (l ++ [x]) s = (at' l s || decide (x.1 = s)) := by
  unfold at'
  simp

/-- Lists that rise and have the same numbers are one. -/
theorem rise_ext : ∀ {l m : List Int}, l.Pairwise (· < ·) → m.Pairwise (· < ·) → (∀ x, x ∈ l ↔ x ∈ m) → l = m
  | [], [], _, _, _ => rfl
  | [], y :: m, _, _, h => absurd ((h y).2 (by simp)) (by simp)
  | x :: l, [], _, _, h => absurd ((h x).1 (by simp)) (by simp)
  | x :: l, y :: m, hl, hm, h => by
    obtain ⟨h1, h2⟩ := List.pairwise_cons.1 hl
    obtain ⟨h3, h4⟩ := List.pairwise_cons.1 hm
    have e : x = y := by
      rcases List.mem_cons.1 ((h x).1 (by simp)) with e | e
      · exact e
      · rcases List.mem_cons.1 ((h y).2 (by simp)) with e' | e'
        · exact e'.symm
        · have := h1 y e'
          have := h3 x e
          omega
    subst e
    rw [rise_ext h2 h4 (fun z => ⟨fun hz => ?_, fun hz => ?_⟩)]
    · rcases List.mem_cons.1 ((h z).1 (List.mem_cons_of_mem _ hz)) with e | e
      · have := h1 z hz
        omega
      · exact e
    · rcases List.mem_cons.1 ((h z).2 (List.mem_cons_of_mem _ hz)) with e | e
      · have := h3 z hz
        omega
      · exact e

/-- Sorted, and nothing twice: it rises. -/
theorem rise_sorted {l : List Int} (hn : l.Nodup) : (l.mergeSort (fun x y => decide (x ≤ y))).Pairwise (· < ·) := by
  have hs : (l.mergeSort (fun x y => decide (x ≤ y))).Pairwise (fun x y => decide (x ≤ y) = true) := List.pairwise_mergeSort (fun a b c h1 h2 => by simp at h1 h2 ⊢; omega) (fun a b => by simp; omega) l
  have hd : (l.mergeSort (fun x y => decide (x ≤ y))).Nodup := (List.mergeSort_perm l _).nodup_iff.2 hn
  exact (hs.and hd).imp (fun h => by simp only [decide_eq_true_eq] at h; omega)

/-- The growths: of each site at which something differs. -/
def gls (b a : List (Int × Nat)) (ss : List Int) : List (Int × Int × Int) := ss.filterMap (fun s => if cnt a s - cnt b s = 0 ∧ wds a s - wds b s = 0 then none else some (s, cnt a s - cnt b s, wds a s - wds b s))

theorem gls_snoc (b a : List (Int × Nat)) (ss : List Int) (s : Int) : gls b a (ss ++ [s]) = gls b a ss ++ (if cnt a s - cnt b s = 0 ∧ wds a s - wds b s = 0 then [] else [(s, cnt a s - cnt b s, wds a s - wds b s)]) := by
  unfold gls
  rw [List.filterMap_append]
  congr 1
  by_cases h : cnt a s - cnt b s = 0 ∧ wds a s - wds b s = 0
  · simp [h]
  · rw [if_neg h]
    simp only [List.filterMap_cons, if_neg h, List.filterMap_nil]

theorem gls_len (b a : List (Int × Nat)) (ss : List Int) : (gls b a ss).length ≤ ss.length := List.length_filterMap_le _ _

/-- A number is laid where it belongs. -/
def put (s : Int) : List Int → List Int
  | [] => [s]
  | x :: l => if x < s then x :: put s l else if x = s then x :: l else s :: x :: l

end Lg
end Go.Proofs.Ytckcdahjajmddaa

/-
  Growth by site: sizes and counts, the document's.
-/
set_option linter.unusedVariables false
set_option maxRecDepth 20000
namespace Go.Proofs.Ytckcdahjajmddaa
open Go.RowKit Go.Shelf

/-- An object by its site and its words. -/
def sw (o : Im.Ob) : Int × Nat := (o.site, 2 + o.ps.length + o.rs.length)
def sws (os : List OL) : List (Int × Nat) := os.map (fun x => sw x.o)

/-- How many words they have together. -/
def swt (l : List (Int × Nat)) : Nat := (l.map (fun x => x.2)).sum

theorem sws_take {os : List OL} {i : Nat} {x : OL} (h : os[i]? = some x) : sws (os.take (i + 1)) = sws (os.take i) ++ [sw x.o] := by
  unfold sws
  rw [List.take_add_one, h, List.map_append]
  rfl

theorem swt_append (l m : List (Int × Nat)) : swt (l ++ m) = swt l + swt m := by simp [swt]

theorem swt_take {os : List OL} (i : Nat) : swt (sws (os.take i)) ≤ swt (sws os) := by
  conv => rhs; rw [← List.take_append_drop i os]
  unfold sws
  rw [List.map_append, swt_append]
  exact Nat.le_add_right _ _

theorem cnt_le (l : List (Int × Nat)) (s : Int) : 0 ≤ Lg.cnt l s ∧ Lg.cnt l s ≤ l.length := by
  unfold Lg.cnt
  have := List.length_filter_le (fun x : Int × Nat => decide (x.1 = s)) l
  omega

theorem wds_le (l : List (Int × Nat)) (s : Int) : 0 ≤ Lg.wds l s ∧ Lg.wds l s ≤ swt l := by
  refine ⟨by unfold Lg.wds; omega, ?_⟩
  have h : ((l.filter (fun x => decide (x.1 = s))).map (fun x => x.2)).sum ≤ (l.map (fun x => x.2)).sum := by
    induction l with
    | nil => simp
    | cons x l ih =>
      rw [List.filter_cons]
      split
      · simp only [List.map_cons, List.sum_cons]; omega
      · simp only [List.map_cons, List.sum_cons]; omega
  unfold Lg.wds swt
  omega

set_option maxHeartbeats 4000000 in
/-- The words of an object. -/
theorem lSize_any (w : World) (s k t : Int) (a b : Option Addr) (p r c d : Nat) (h1 : p ≤ 1000000000000) (h2 : r ≤ 1000000000000) :
    Calls Try.prog 30 #[.agg (ocs s k t (.slice a p c) (.slice b r d))] w fun e w' => e = .returned (.int .i64 ((2 + p + r : Nat) : Int)) ∧ Below w.heap.size w w' := by
  have hb := Below.alloc (Below.refl w.heap.size w) (Nat.le_refl _) (.cells (ocs s k t (.slice a p c) (.slice b r d)) 58)
  have hx := heap_alloc_new w (.cells (ocs s k t (.slice a p c) (.slice b r d)) 58 (0, 0))
  go_enter Try.func30, Try.ntmps30
  go_wp2
  go_ret
  exact ⟨by simp, hb⟩

/-- How long the lists of objects may be. -/
structure Swb (os : List OL) : Prop where
  n : os.length ≤ 100000000000
  l : ∀ x, x ∈ os → x.o.ps.length ≤ 1000000000000 ∧ x.o.rs.length ≤ 1000000000000
  t : swt (sws os) ≤ 1000000000000000

set_option maxHeartbeats 8000000 in
/-- The document's count. -/
theorem r17count_any (n0 : Nat) (w : World) (hn0 : n0 ≤ w.heap.size) (vo vs vh vr vq : Value) (os : List OL) (ts : List (Value × List (Value × List Int))) (g : Im.Gr) (hg : Grd n0 w vo vs vh vr vq os ts g) (hb : Swb os) (s : Int) :
    Calls Try.prog 17 #[.agg (gcs vo vs vh vr vq g.next), .int .i64 s] w fun e w' => e = .returned (.tuple #[.int .i64 (Lg.cnt (sws os) s), .int .i64 (Lg.wds (sws os) s)]) ∧ Below w.heap.size w w' := by
  have l1 : Below w.heap.size w (w.alloc (.cells (gcs vo vs vh vr vq g.next) 27)) := Below.alloc (Below.refl _ _) (Nat.le_refl _) _
  have hx := heap_alloc_new w (.cells (gcs vo vs vh vr vq g.next) 27 (0, 0))
  have HX : Hid (∀ w', Below (w.alloc (.cells (gcs vo vs vh vr vq g.next) 27)).heap.size (w.alloc (.cells (gcs vo vs vh vr vq g.next) 27)) w' → Below w.heap.size w w' ∧ w'.cell? ⟨w.heap.size, 0, none⟩ = some vo ∧ Ord n0 w' vo os) := fun w' b' => ⟨l1.trans (b'.mono l1.size), (b'.cell (p := ⟨w.heap.size, 0, none⟩) (Kg.heap_lt hx)).trans (Kg.heap_cell hx 0), hg.ob.below ((l1.trans (b'.mono l1.size)).mono hn0)⟩
  have HB : Hid (Swb os) := hb
  have hnl := hb.n
  obtain ⟨aa, ac, rfl, -⟩ := hg.ob
  obtain ⟨ba, bc, rfl, -⟩ := hg.sl
  obtain ⟨ca, cc, rfl, -, -⟩ := hg.hs
  obtain ⟨da, dc, rfl, -, -⟩ := hg.rg
  obtain ⟨qa, qc, rfl, -, -⟩ := hg.qu
  clear hg hb l1 hx
  go_enter Try.func17, Try.ntmps17
  go_upto_region 1 with fail
  generalize w.alloc (.cells (gcs (.slice aa os.length ac) (.slice ba ts.length bc) (.slice ca g.hs.length cc) (.slice da g.rg.length dc) (.slice qa g.qu.length qc) g.next) 27) = W at *
  generalize hA : w.heap.size = A at *
  go_wp2
  go_loopw [6, 7, 8] (fun v6 v7 v8 wr => ∃ i : Nat, i ≤ os.length ∧ v8 = .int .i64 i ∧ v6 = .int .i64 (Lg.cnt (sws (os.take i)) s) ∧ v7 = .int .i64 (Lg.wds (sws (os.take i)) s) ∧ Hid (Below W.heap.size W wr)) (fun _ _ v8 _ => os.length - (intOf v8).toNat)
  case atStart => exact ⟨0, Nat.zero_le _, rfl, rfl, rfl, Below.refl _ _⟩
  case round =>
    obtain ⟨i, hi, rfl, rfl, rfl, HW9⟩ := hrel
    have k0 := (HX.out wr HW9.out).2.1
    by_cases hil : i < os.length
    · have hiI : (i : Int) < (os.length : Int) := by omega
      have hz : os[i]? = some (os[i]'hil) := List.getElem?_eq_getElem hil
      generalize os[i]'hil = x at hz
      obtain ⟨a', cap', e', hel⟩ := (HX.out wr HW9.out).2.2
      cases e'
      obtain ⟨lp, lr, q, off, rfl, -, hc⟩ := hel i x hz
      obtain ⟨pa, pc, ep, -, -⟩ := lp
      obtain ⟨ra, rc, er, -, -⟩ := lr
      rw [List.length_map] at er
      have c2 := hc 2 (by omega)
      have c3 := (hc 3 (by omega)).trans (show _ = some x.vp from rfl)
      have c4 := (hc 4 (by omega)).trans (show _ = some x.vr from rfl)
      have c2 : _ = some (Value.int .i64 x.o.site) := c2
      rw [ep] at c3
      rw [er] at c4
      have hl := HB.out.l x (List.mem_of_getElem? hz)
      have hcn := cnt_le (sws (os.take i)) s
      have hwd := wds_le (sws (os.take i)) s
      have hwt := swt_take (os := os) i
      have htt := HB.out.t
      have hcl : (sws (os.take i)).length ≤ os.length := by unfold sws; rw [List.length_map, List.length_take]; omega
      have HC : Hid (∀ y, Lg.cnt (sws (os.take (i + 1))) y = Lg.cnt (sws (os.take i)) y + (if x.o.site = y then 1 else 0)) := fun y => by rw [sws_take hz, Lg.cnt_snoc]; rfl
      have HW : Hid (∀ y, Lg.wds (sws (os.take (i + 1))) y = Lg.wds (sws (os.take i)) y + (if x.o.site = y then ((2 + x.o.ps.length + x.o.rs.length : Nat) : Int) else 0)) := fun y => by rw [sws_take hz, Lg.wds_snoc]; rfl
      clear hel hc
      have HK : Hid (0 ≤ Lg.cnt (sws (os.take i)) s) := hcn.1
      generalize hC0 : Lg.cnt (sws (os.take i)) s = C at *
      generalize hW0 : Lg.wds (sws (os.take i)) s = V at *
      have b1 : C ≤ 1000000000000 := by omega
      have b2 : V ≤ 1000000000000000 := by omega
      have b3 := hcn.1
      have b4 := hwd.1
      clear hcn hwd hwt htt hcl
      by_cases hs : x.o.site = s
      · go_upto_region 7 with fail
        have hA9 : A < wr.heap.size := World.block_lt_of_cell? _ _ k0
        have hq9 : q < wr.heap.size := World.block_lt_of_cell? _ _ c2
        haveI hinh : Inhabited (Kg.Bel wr) := ⟨⟨wr, Below.refl _ _⟩⟩
        have z0 : ∀ u : Kg.Bel wr, u.v.cell? ⟨A, 0, none⟩ = some (.slice (some ⟨q, off, none⟩) os.length ac) := fun u => (u.h.cell (p := ⟨A, 0, none⟩) hA9).trans k0
        have z3 : ∀ u : Kg.Bel wr, u.v.cell? ⟨q, off + i * 5 + 3, none⟩ = some (.slice pa x.o.ps.length pc) := fun u => (u.h.cell (p := ⟨q, off + i * 5 + 3, none⟩) hq9).trans c3
        have z4 : ∀ u : Kg.Bel wr, u.v.cell? ⟨q, off + i * 5 + 4, none⟩ = some (.slice ra x.o.rs.length rc) := fun u => (u.h.cell (p := ⟨q, off + i * 5 + 4, none⟩) hq9).trans c4
        refine Kg.region_below Kg.mixed (by kernel_rfl) ?_
        repeat (go_big_quiet_step (fail))
        refine wpQuiet_nil ?_
        rintro w5 ⟨⟨w5, b5⟩, rfl⟩
        have H5 : Hid (Below W.heap.size W w5) := HW9.out.trans (b5.mono HW9.out.size)
        clear z0 z3 z4 hinh b5 k0 c2 c3 c4
        go_wp2
        go_roundw
        case rel =>
          refine ⟨i + 1, by omega, by go_num, ?_, ?_, H5⟩
          · rw [HC.out, if_pos hs, hC0]
          · rw [HW.out, if_pos hs, hW0]
            congr 1
            omega
        case measure => simp [intOf]; omega
      · go_wp2
        go_roundw
        case rel =>
          refine ⟨i + 1, by omega, by go_num, ?_, ?_, HW9⟩
          · rw [HC.out, if_neg hs, hC0, Int.add_zero]
          · rw [HW.out, if_neg hs, hW0, Int.add_zero]
        case measure => simp [intOf]; omega
    · have hiI : ¬ (i : Int) < (os.length : Int) := by omega
      have e9 : os.take i = os := List.take_of_length_le (by omega)
      rw [e9]
      go_wp2
      go_ret2
      exact ⟨rfl, (HX.out wr HW9.out).1⟩

end Go.Proofs.Ytckcdahjajmddaa

/-
  Growth by site: the program's map of growths.
-/
set_option linter.unusedVariables false
set_option maxRecDepth 20000
namespace Go.Proofs.Ytckcdahjajmddaa
open Go.RowKit Go.Shelf

theorem Try.keyed : Maps.Keyed Try.prog 3 := Maps.int_keyed Try.underlying3

theorem wf_of {a : Int} (h : InI a) : (Lit.int .i64 a).wf = true := by
  simp [Lit.wf, IntKind.min, IntKind.max, IntKind.signed, IntKind.bits]
  exact h

theorem key_of {a : Int} (h : InI a) : keyOf Try.prog 3 (.int .i64 a) = some (.int .i64 a) := Maps.keyOf_int_mk Try.underlying3 (wf_of h)

theorem keyLit (a : Int) : WideAt.IsKeyLit (.int .i64 a) := by simp [WideAt.IsKeyLit]

/-- A growth as a map's element. -/
def gdt (s o v : Int) : DataW Nat := .agg [.lit (.int .i64 s), .lit (.int .i64 o), .lit (.int .i64 v)]
def gEl : Value → Option (DataW Nat × List MemPlace)
  | .agg c => match c.toList with
    | [.int .i64 s, .int .i64 o, .int .i64 v] => some (gdt s o v, [])
    | _ => none
  | _ => none

theorem gEl_mk (s o v : Int) : gEl (.agg #[.int .i64 s, .int .i64 o, .int .i64 v]) = some (gdt s o v, []) := rfl

theorem gEl_inv {x : Value} {s o v : Int} {ps : List MemPlace} (h : gEl x = some (gdt s o v, ps)) : x = .agg #[.int .i64 s, .int .i64 o, .int .i64 v] := by
  unfold gEl at h
  split at h
  · rename_i c
    split at h
    · rename_i s' o' v' e
      simp only [gdt, Option.some.injEq, Prod.mk.injEq, DataW.agg.injEq, List.cons.injEq, DataW.lit.injEq, Lit.int.injEq, true_and, and_true] at h
      obtain ⟨⟨rfl, rfl, rfl⟩, -⟩ := h
      congr 1
      exact Array.toList_inj.1 e
    · cases h
  · cases h

theorem Try.zeroG (w : World) : (zeroValue 55).run Try.prog w = .ok (.agg #[.int .i64 0, .int .i64 0, .int .i64 0]) w := by kernel_rfl

/-- What is told of a site. -/
def gof (s : Int) : Option (Int × Int) → DataW Nat
  | some (o, v) => gdt s o v
  | none => gdt 0 0 0

/-- Block mb is a map of growths, of at most n entries. -/
def Mg (w : World) (mb n : Nat) (f : Int → Option (Int × Int)) : Prop := ∃ D : DataW Nat, w.ownsMap Try.prog 3 gEl mb n D ∧ ∀ a, InI a → D.atKey (.int .i64 a) (gdt 0 0 0) = gof a (f a) ∧ Maps.has D (.int .i64 a) = (f a).isSome

theorem Mg.made (w : World) : Mg (w.alloc (.map #[] 0)) w.heap.size 0 (fun _ => none) :=
  ⟨.map [], World.ownsMap_made w _ _ _, fun a _ => ⟨by simp [DataW.atKey, gof], by simp [Maps.has]⟩⟩

theorem Mg.keep {w w' : World} {mb n : Nat} {f : Int → Option (Int × Int)} (h : Mg w mb n f) (k : w'.heap[mb]? = w.heap[mb]?) : Mg w' mb n f := by
  obtain ⟨D, ⟨es, cl, h1, h2⟩, h3⟩ := h
  exact ⟨D, ⟨es, cl, k.trans h1, h2⟩, h3⟩

theorem Mg.lt {w : World} {mb n : Nat} {f : Int → Option (Int × Int)} (h : Mg w mb n f) : mb < w.heap.size := by
  obtain ⟨D, h1, -⟩ := h
  exact h1.lt

theorem Mg.below {w w' : World} {mb n : Nat} {f : Int → Option (Int × Int)} (h : Mg w mb n f) (l : Below w.heap.size w w') : Mg w' mb n f := h.keep (l.block _ h.lt)

/-- What a lookup answers. -/
theorem Mg.look {w : World} {mb n : Nat} {f : Int → Option (Int × Int)} (h : Mg w mb n f) {a : Int} (ha : InI a) : (Instr.lookup 48 (.map (some mb)) (.int .i64 a) false).run Try.prog w = .ok (.agg (match f a with | some (o, v) => #[.int .i64 a, .int .i64 o, .int .i64 v] | none => #[.int .i64 0, .int .i64 0, .int .i64 0])) w := by
  obtain ⟨D, h1, h2⟩ := h
  obtain ⟨v, ps, hr, hv⟩ := h1.lookup Try.keyed Try.underlying48 (Try.zeroG w) (gEl_mk 0 0 0) (key_of ha)
  rw [(h2 a ha).1] at hv
  rw [hr]
  cases hf : f a with
  | none =>
    rw [hf] at hv
    rw [gEl_inv hv]
  | some p =>
    obtain ⟨o, v'⟩ := p
    rw [hf] at hv
    rw [gEl_inv hv]

theorem Mg.look3 {w : World} {mb n : Nat} {f : Int → Option (Int × Int)} (h : Mg w mb n f) {a : Int} (ha : InI a) : ∃ g0, ((f a).isSome = true → g0 = a) ∧ (Instr.lookup 48 (.map (some mb)) (.int .i64 a) false).run Try.prog w = .ok (.agg #[.int .i64 g0, .int .i64 ((f a).getD (0, 0)).1, .int .i64 ((f a).getD (0, 0)).2]) w := by
  have hl := h.look ha
  cases hf : f a with
  | none =>
    rw [hf] at hl
    exact ⟨0, (fun h => by cases h), hl⟩
  | some p =>
    obtain ⟨o, v⟩ := p
    rw [hf] at hl
    exact ⟨a, fun _ => rfl, hl⟩

/-- A growth is laid. -/
theorem Mg.put {w w' : World} {mb n : Nat} {f : Int → Option (Int × Int)} {D : DataW Nat} {a o v : Int} (ha : InI a) (h0 : w.ownsMap Try.prog 3 gEl mb n D) (hS : ∀ a, InI a → D.atKey (.int .i64 a) (gdt 0 0 0) = gof a (f a) ∧ Maps.has D (.int .i64 a) = (f a).isSome) (h : w'.ownsMap Try.prog 3 gEl mb (n + 1) (D.put (.int .i64 a) (gdt a o v))) : Mg w' mb (n + 1) (fun y => if y = a then some (o, v) else f y) := by
  refine ⟨_, h, fun y hy => ?_⟩
  by_cases e : y = a
  · subst e
    rw [Maps.has_put_same h0.isMap (keyLit y), Maps.atKey_put_same h0.isMap (keyLit y)]
    simp [gof]
  · have e' : (Lit.int .i64 y) ≠ Lit.int .i64 a := by intro h; exact e (by simpa using h)
    rw [Maps.has_put_other e', Maps.atKey_put_other e']
    simp only [if_neg e]
    exact hS y hy

theorem Mg.ne {w : World} {mb n b t : Nat} {f : Int → Option (Int × Int)} {cs : Array Value} {z : Nat × Nat} (h : Mg w mb n f) (k : w.heap[b]? = some (.cells cs t z)) : b ≠ mb := by
  rintro rfl
  obtain ⟨D, ⟨es, cl, h1, -⟩, -⟩ := h
  rw [h1] at k
  simp at k

/-- What is told of the sites behind some objects, each so many times. -/
def fst' (f : Int → Option (Int × Int)) (t : Int) (l : List (Int × Nat)) : Int → Option (Int × Int) := fun y => if Lg.at' l y then some (((f y).getD (0, 0)).1 + t * Lg.cnt l y, ((f y).getD (0, 0)).2 + t * Lg.wds l y) else f y

theorem fst_nil (f : Int → Option (Int × Int)) (t : Int) : fst' f t [] = f := by
  funext y
  simp [fst', Lg.at']

theorem fst_snoc (f : Int → Option (Int × Int)) (t : Int) (l : List (Int × Nat)) (x : Int × Nat) : fst' f t (l ++ [x]) = fun y => if y = x.1 then some (((fst' f t l y).getD (0, 0)).1 + t, ((fst' f t l y).getD (0, 0)).2 + t * (x.2 : Int)) else fst' f t l y := by
  funext y
  simp only [fst', Lg.at_snoc, Lg.cnt_snoc, Lg.wds_snoc]
  by_cases e : y = x.1
  · subst e
    simp only [decide_true, Bool.or_true, if_true]
    by_cases h : Lg.at' l x.1 = true
    · rw [if_pos h]
      simp only [Option.getD_some, Option.some.injEq, Prod.mk.injEq]
      exact ⟨by rw [Int.mul_add]; omega, by rw [Int.mul_add]; omega⟩
    · rw [if_neg h]
      have h0 : ∀ z, z ∈ l → z.1 ≠ x.1 := fun z hz e9 => h (Lg.at_iff.2 ⟨z, hz, e9⟩)
      rw [Lg.cnt_none h0, Lg.wds_none h0]
      simp
  · have e2 : ¬ x.1 = y := fun h => e h.symm
    simp [e, e2]

end Go.Proofs.Ytckcdahjajmddaa

/-
  Growth by site: the program counts a graph in.
-/
set_option linter.unusedVariables false
set_option maxRecDepth 20000
namespace Go.Proofs.Ytckcdahjajmddaa
open Go.RowKit Go.Shelf

/-- How great what is told may be. -/
def Gb (f : Int → Option (Int × Int)) (a b : Int) : Prop := ∀ y, -a ≤ ((f y).getD (0, 0)).1 ∧ ((f y).getD (0, 0)).1 ≤ a ∧ -b ≤ ((f y).getD (0, 0)).2 ∧ ((f y).getD (0, 0)).2 ≤ b

theorem Gb.fst {f : Int → Option (Int × Int)} {a b t : Int} {l : List (Int × Nat)} (h : Gb f a b) (ht : t = 1 ∨ t = -1) : Gb (fst' f t l) (a + l.length) (b + swt l) := by
  intro y
  have h1 := h y
  have h2 := cnt_le l y
  have h3 := wds_le l y
  unfold fst'
  by_cases e : Lg.at' l y = true
  · rw [if_pos e]
    simp only [Option.getD_some]
    rcases ht with rfl | rfl
    · omega
    · omega
  · rw [if_neg e]
    omega

set_option maxHeartbeats 8000000 in
theorem lCount_any (n0 : Nat) (w : World) (hn0 : n0 ≤ w.heap.size) (vo vs vh vr vq : Value) (os : List OL) (ts : List (Value × List (Value × List Int))) (g : Im.Gr) (hg : Grd n0 w vo vs vh vr vq os ts g) (hb : Swb os) (t : Int) (ht : t = 1 ∨ t = -1) (mb n : Nat) (f : Int → Option (Int × Int)) (hm : Mg w mb n f) (hmb : n0 ≤ mb) (hf : Gb f 1000000000000 1000000000000000) (hn : n ≤ 1000000000000) :
    Calls Try.prog 14 #[.map (some mb), .agg (gcs vo vs vh vr vq g.next), .int .i64 t] w fun e w' => e = .returned (.tuple #[]) ∧ Mg w' mb (n + os.length) (fst' f t (sws os)) ∧ Kg.Touch [mb] w w' := by
  have hml := hm.lt
  have l1 : Below w.heap.size w (w.alloc (.cells (gcs vo vs vh vr vq g.next) 27)) := Below.alloc (Below.refl _ _) (Nat.le_refl _) _
  have hx := heap_alloc_new w (.cells (gcs vo vs vh vr vq g.next) 27 (0, 0))
  have HX : Hid (∀ w', Kg.Touch [mb] (w.alloc (.cells (gcs vo vs vh vr vq g.next) 27)) w' → Kg.Touch [mb] w w' ∧ w'.cell? ⟨w.heap.size, 0, none⟩ = some vo ∧ Ord n0 w' vo os) := fun w' b' => ⟨(Kg.Touch.of_below l1 _).trans b', (World.cell?_of_block (b'.block _ (Kg.heap_lt hx) (by simp; omega))).trans (Kg.heap_cell hx 0), hg.ob.below ((l1.mono hn0).trans (b'.below (Nat.le_trans hn0 l1.size) (fun k hk => by simp at hk; omega)))⟩
  have HM : Hid (Mg (w.alloc (.cells (gcs vo vs vh vr vq g.next) 27)) mb n f) := hm.below l1
  have HB : Hid (Swb os) := hb
  have HF : Hid (Gb f 1000000000000 1000000000000000) := hf
  have HT : Hid (t = 1 ∨ t = -1) := ht
  have HSR : Hid (∀ x, x ∈ os → InI x.o.site) := fun x hx => (hg.sr x.o (by rw [hg.eo]; exact List.mem_map_of_mem hx)).2.2.1
  have hnl := hb.n
  obtain ⟨aa, ac, rfl, -⟩ := hg.ob
  obtain ⟨ba, bc, rfl, -⟩ := hg.sl
  obtain ⟨ca, cc, rfl, -, -⟩ := hg.hs
  obtain ⟨da, dc, rfl, -, -⟩ := hg.rg
  obtain ⟨qa, qc, rfl, -, -⟩ := hg.qu
  have hs1 : (w.alloc (.cells (gcs (.slice aa os.length ac) (.slice ba ts.length bc) (.slice ca g.hs.length cc) (.slice da g.rg.length dc) (.slice qa g.qu.length qc) g.next) 27)).heap.size = w.heap.size + 1 := by simp
  clear hg hb l1 hx hm hf ht
  go_enter Try.func14, Try.ntmps14
  go_upto_region 1 with fail
  generalize w.alloc (.cells (gcs (.slice aa os.length ac) (.slice ba ts.length bc) (.slice ca g.hs.length cc) (.slice da g.rg.length dc) (.slice qa g.qu.length qc) g.next) 27) = W at *
  generalize hA : w.heap.size = A at *
  have k0 := (HX.out W (Kg.Touch.refl _ _)).2.1
  go_wp2
  go_loopw [12] (fun v12 wr => ∃ i : Nat, i ≤ os.length ∧ v12 = .int .i64 i ∧ Hid (Kg.Touch [mb] W wr ∧ Mg wr mb (n + i) (fst' f t (sws (os.take i))))) (fun v12 _ => os.length - (intOf v12).toNat)
  case atStart => exact ⟨0, Nat.zero_le _, rfl, Kg.Touch.refl _ _, by rw [List.take_zero]; show Mg W mb (n + 0) (fst' f t []); rw [fst_nil]; exact HM.out⟩
  case round =>
    obtain ⟨i, hi, rfl, HR⟩ := hrel
    by_cases hil : i < os.length
    · have hiI : (i : Int) < (os.length : Int) := by omega
      have hz : os[i]? = some (os[i]'hil) := List.getElem?_eq_getElem hil
      generalize os[i]'hil = x at hz
      obtain ⟨a', cap', e', hel⟩ := (HX.out wr HR.out.1).2.2
      cases e'
      obtain ⟨lp, lr, q, off, rfl, -, hc⟩ := hel i x hz
      obtain ⟨pa, pc, ep, -, -⟩ := lp
      obtain ⟨ra, rc, er, -, -⟩ := lr
      rw [List.length_map] at er
      have c0 := (hc 0 (by omega)).trans (show _ = some (Value.int .u64 (x.o.ser : Int)) from rfl)
      have c1 := (hc 1 (by omega)).trans (show _ = some (Value.int .i64 x.o.kind) from rfl)
      have c2 := (hc 2 (by omega)).trans (show _ = some (Value.int .i64 x.o.site) from rfl)
      have c3 := (hc 3 (by omega)).trans (show _ = some x.vp from rfl)
      have c4 := (hc 4 (by omega)).trans (show _ = some x.vr from rfl)
      rw [Nat.add_zero] at c0
      rw [ep] at c3
      rw [er] at c4
      have hl := HB.out.l x (List.mem_of_getElem? hz)
      have HS : Hid (InI x.o.site) := HSR.out x (List.mem_of_getElem? hz)
      have Hz : Hid (sws (os.take (i + 1)) = sws (os.take i) ++ [sw x.o]) := sws_take hz
      clear hel hc k0
      go_upto_region 4 with fail
      have b1 := Below.alloc (Below.refl wr.heap.size wr) (Nat.le_refl _) (.cells #[.int .u64 (x.o.ser : Int), .int .i64 x.o.kind, .int .i64 x.o.site, .slice pa x.o.ps.length pc, .slice ra x.o.rs.length rc] 58)
      have x1 := heap_alloc_new wr (.cells #[.int .u64 (x.o.ser : Int), .int .i64 x.o.kind, .int .i64 x.o.site, .slice pa x.o.ps.length pc, .slice ra x.o.rs.length rc] 58 (0, 0))
      change Code.wp _ _ _ _ (wr.alloc (.cells #[.int .u64 (x.o.ser : Int), .int .i64 x.o.kind, .int .i64 x.o.site, .slice pa x.o.ps.length pc, .slice ra x.o.rs.length rc] 58))
      generalize wr.alloc (.cells #[.int .u64 (x.o.ser : Int), .int .i64 x.o.kind, .int .i64 x.o.site, .slice pa x.o.ps.length pc, .slice ra x.o.rs.length rc] 58) = w1 at *
      have M1 : Hid (Mg w1 mb (n + i) (fst' f t (sws (os.take i)))) := HR.out.2.below b1
      have T1 : Hid (Kg.Touch [mb] W w1) := HR.out.1.trans (Kg.Touch.of_below b1 _)
      have hO : wr.heap.size < w1.heap.size := Kg.heap_lt x1
      generalize wr.heap.size = O at *
      have d2 := (Kg.heap_cell x1 2).trans (show _ = some (Value.int .i64 x.o.site) from rfl)
      obtain ⟨g0, -, hlk⟩ := M1.out.look3 HS.out
      have HG := (HF.out.fst (l := sws (os.take i)) HT.out) x.o.site
      have hw1 := swt_take (os := os) i
      have hw2 := HB.out.t
      have hw3 : (sws (os.take i)).length ≤ os.length := by unfold sws; rw [List.length_map, List.length_take]; omega
      have HE : Hid (fst' f t (sws (os.take (i + 1))) = fun y => if y = x.o.site then some (((fst' f t (sws (os.take i)) x.o.site).getD (0, 0)).1 + t, ((fst' f t (sws (os.take i)) x.o.site).getD (0, 0)).2 + t * ((2 + x.o.ps.length + x.o.rs.length : Nat) : Int)) else fst' f t (sws (os.take i)) y) := by
        show _ = _
        rw [Hz.out, fst_snoc]
        funext y
        by_cases e : y = x.o.site
        · subst e; rfl
        · have e2 : ¬ y = (sw x.o).1 := e
          rw [if_neg e2, if_neg e]
      generalize (fst' f t (sws (os.take i)) x.o.site).getD (0, 0) = p0 at *
      obtain ⟨o1, v1⟩ := p0
      simp only at HG hlk HE
      clear b1 HR c0 c1 c2 c3 c4 Hz
      go_upto_region 5 with fail
      have b2 := Below.alloc (Below.refl w1.heap.size w1) (Nat.le_refl _) (.cells #[.int .i64 g0, .int .i64 o1, .int .i64 v1] 55)
      have x2 := heap_alloc_new w1 (.cells #[.int .i64 g0, .int .i64 o1, .int .i64 v1] 55 (0, 0))
      change Code.wp _ _ _ _ (w1.alloc (.cells #[.int .i64 g0, .int .i64 o1, .int .i64 v1] 55))
      have xO := (b2.block O hO).trans x1
      generalize w1.alloc (.cells #[.int .i64 g0, .int .i64 o1, .int .i64 v1] 55) = w2 at *
      have M2 : Hid (Mg w2 mb (n + i) (fst' f t (sws (os.take i)))) := M1.out.below b2
      have T2 : Hid (Kg.Touch [mb] W w2) := T1.out.trans (Kg.Touch.of_below b2 _)
      have hP : w1.heap.size < w2.heap.size := Kg.heap_lt x2
      have hO2 : O < w2.heap.size := Kg.heap_lt xO
      generalize w1.heap.size = P at *
      clear b2 x1 hlk d2 M1 T1
      haveI hinh : Inhabited (Kg.Bel w2) := ⟨⟨w2, Below.refl _ _⟩⟩
      have z0 : ∀ u : Kg.Bel w2, u.v.cell? ⟨O, 0, none⟩ = some (.int .u64 (x.o.ser : Int)) := fun u => (u.h.cell (p := ⟨O, 0, none⟩) hO2).trans ((Kg.heap_cell xO 0).trans rfl)
      have z1 : ∀ u : Kg.Bel w2, u.v.cell? ⟨O, 1, none⟩ = some (.int .i64 x.o.kind) := fun u => (u.h.cell (p := ⟨O, 1, none⟩) hO2).trans ((Kg.heap_cell xO 1).trans rfl)
      have z2 : ∀ u : Kg.Bel w2, u.v.cell? ⟨O, 2, none⟩ = some (.int .i64 x.o.site) := fun u => (u.h.cell (p := ⟨O, 2, none⟩) hO2).trans ((Kg.heap_cell xO 2).trans rfl)
      have z3 : ∀ u : Kg.Bel w2, u.v.cell? ⟨O, 3, none⟩ = some (.slice pa x.o.ps.length pc) := fun u => (u.h.cell (p := ⟨O, 3, none⟩) hO2).trans ((Kg.heap_cell xO 3).trans rfl)
      have z4 : ∀ u : Kg.Bel w2, u.v.cell? ⟨O, 4, none⟩ = some (.slice ra x.o.rs.length rc) := fun u => (u.h.cell (p := ⟨O, 4, none⟩) hO2).trans ((Kg.heap_cell xO 4).trans rfl)
      have y1 : ∀ u : Kg.Bel w2, u.v.cell? ⟨P, 1, none⟩ = some (.int .i64 o1) := fun u => (u.h.cell (p := ⟨P, 1, none⟩) hP).trans ((Kg.heap_cell x2 1).trans rfl)
      have y2 : ∀ u : Kg.Bel w2, u.v.cell? ⟨P, 2, none⟩ = some (.int .i64 v1) := fun u => (u.h.cell (p := ⟨P, 2, none⟩) hP).trans ((Kg.heap_cell x2 2).trans rfl)
      have hC : ∀ u : Kg.Bel w2, Calls Try.prog 30 #[.agg #[.int .u64 (x.o.ser : Int), .int .i64 x.o.kind, .int .i64 x.o.site, .slice pa x.o.ps.length pc, .slice ra x.o.rs.length rc]] u.v fun e w' => e = .returned (.int .i64 ((2 + x.o.ps.length + x.o.rs.length : Nat) : Int)) ∧ Below u.v.heap.size u.v w' := fun u => lSize_any u.v _ _ _ _ _ _ _ _ _ (by omega) (by omega)
      obtain ⟨z, hzz⟩ : ∃ z : Nat, 2 + x.o.ps.length + x.o.rs.length = z := ⟨_, rfl⟩
      rw [hzz] at hC HE
      have hzb : z ≤ 3000000000000 := by omega
      have hq1 : -3000000000000 ≤ o1 ∧ o1 ≤ 3000000000000 := by omega
      have hq2 : -3000000000000000 ≤ v1 ∧ v1 ≤ 3000000000000000 := by omega
      clear HG hw1 hw2 hw3 hzz hl xO x2
      rcases HT.out with rfl | rfl
      · refine Kg.below_call 17 Kg.mixed (by kernel_rfl) ?_
        simp only [List.take_succ_cons, List.take_zero, List.drop_succ_cons, List.drop_zero]
        repeat (go_big_quiet_step (exact Kg.calls_bel (hC _)))
        refine wpQuiet_nil ?_
        rintro w4 ⟨⟨w4, b4⟩, rfl⟩
        have M4 := M2.out.below b4
        have T4 : Hid (Kg.Touch [mb] W w4) := T2.out.trans (Kg.Touch.of_below b4 _)
        obtain ⟨D, hD, hD2⟩ := M4
        clear hC z0 z1 z2 z3 z4 y1 y2 hinh b4 M2 T2
        refine wpList_mapUpdate_own _ rfl _ _ _ 48 rfl 3 55 Try.keyed Try.underlying48 gEl mb (n + i) D rfl hD (by simp only [maxLen]; omega) _ _ (.int .i64 x.o.site) rfl rfl (key_of HS.out) (gdt x.o.site (o1 + 1) (v1 + (z : Int))) [] (gEl_mk _ _ _) ?_
        intro w5 h5 g5
        have M5 : Hid (Mg w5 mb (n + (i + 1)) (fst' f (1) (sws (os.take (i + 1))))) := by
          show Mg _ _ _ _
          rw [HE.out]
          have h9 := Mg.put HS.out hD hD2 h5
          have e9 : (1 : Int) * (z : Int) = (z : Int) := by omega
          rw [e9]
          exact h9
        have T5 : Hid (Kg.Touch [mb] W w5) := T4.out.trans (Kg.Touch.grown g5 (fun k hk => by cases hk; simp))
        clear hD hD2 h5 g5 T4
        refine wpList_nil ?_
        refine Kg.thenQuiet_mk ?_
        refine wpQuiet_nil ?_
        go_wp2
        go_roundw
        case rel => exact ⟨i + 1, by omega, by go_num, T5.out, M5.out⟩
        case measure => simp [intOf]; omega
      · refine Kg.below_call 17 Kg.mixed (by kernel_rfl) ?_
        simp only [List.take_succ_cons, List.take_zero, List.drop_succ_cons, List.drop_zero]
        repeat (go_big_quiet_step (exact Kg.calls_bel (hC _)))
        refine wpQuiet_nil ?_
        rintro w4 ⟨⟨w4, b4⟩, rfl⟩
        have M4 := M2.out.below b4
        have T4 : Hid (Kg.Touch [mb] W w4) := T2.out.trans (Kg.Touch.of_below b4 _)
        obtain ⟨D, hD, hD2⟩ := M4
        clear hC z0 z1 z2 z3 z4 y1 y2 hinh b4 M2 T2
        refine wpList_mapUpdate_own _ rfl _ _ _ 48 rfl 3 55 Try.keyed Try.underlying48 gEl mb (n + i) D rfl hD (by simp only [maxLen]; omega) _ _ (.int .i64 x.o.site) rfl rfl (key_of HS.out) (gdt x.o.site (o1 + -1) (v1 + -(z : Int))) [] (gEl_mk _ _ _) ?_
        intro w5 h5 g5
        have M5 : Hid (Mg w5 mb (n + (i + 1)) (fst' f (-1) (sws (os.take (i + 1))))) := by
          show Mg _ _ _ _
          rw [HE.out]
          have h9 := Mg.put HS.out hD hD2 h5
          have e9 : (-1 : Int) * (z : Int) = - (z : Int) := by omega
          rw [e9]
          exact h9
        have T5 : Hid (Kg.Touch [mb] W w5) := T4.out.trans (Kg.Touch.grown g5 (fun k hk => by cases hk; simp))
        clear hD hD2 h5 g5 T4
        refine wpList_nil ?_
        refine Kg.thenQuiet_mk ?_
        refine wpQuiet_nil ?_
        go_wp2
        go_roundw
        case rel => exact ⟨i + 1, by omega, by go_num, T5.out, M5.out⟩
        case measure => simp [intOf]; omega
    · have hiI : ¬ (i : Int) < (os.length : Int) := by omega
      have e9 : os.take i = os := List.take_of_length_le (by omega)
      have e8 : i = os.length := by omega
      rw [e9, e8] at HR
      go_wp2
      refine bodyPost_end (v := .tuple #[]) ?_ rfl ⟨rfl, HR.out.2, (HX.out wr HR.out.1).1⟩
      simp [results, Try.results14, go_sem]

end Go.Proofs.Ytckcdahjajmddaa

