import Derived.Test.YtkekaifiahjljaaGreatDoorC29
import Derived.ProofKit
import Derived.OpenShut
import Derived.ChangeOld
import Derived.ChangeSlices
import Derived.Lib.SmallJoins
import Derived.Test.YtkekaifiahjljaaGreatDoorC00
import Derived.LaidMore
import Derived.Stop.Joined
set_option linter.unusedVariables false
set_option maxHeartbeats 8000000
set_option maxRecDepth 20000
namespace Go.Proofs.YtkekaifiahjljaaGreatDoor
open Go.ChangeShapes Go.WideShapes Go.ChangeAt Go.WideMaps Go.WideElems Go.RowKit Go.Shelf
theorem gn3 : Tryz.prog.cellsOf 3 = 1 := by kernel_rfl
theorem gnu : Tryz.prog.cellsOf 25 = 1 := by kernel_rfl
theorem gni : Tryz.prog.cellsOf 24 = 1 := by kernel_rfl
theorem gnw : Tryz.prog.cellsOf 37 = 1 := by kernel_rfl
theorem gnf : Tryz.prog.cellsOf 48 = 1 := by kernel_rfl
theorem gnt : Tryz.prog.cellsOf 23 = 1 := by kernel_rfl
theorem gno : Tryz.prog.cellsOf 39 = 5 := by kernel_rfl
theorem gnos : Tryz.prog.cellsOf 22 = 1 := by kernel_rfl
theorem gng : Tryz.prog.cellsOf 27 = 6 := by kernel_rfl
theorem gplus (g off n : Nat) : (⟨g, off, none⟩ : Addr).add n = ⟨g, off + n, none⟩ := Addr.add_lit _ _ _
theorem gin {a : Int} (h : (Lit.int .i64 a).wf = true) : InI a := by
  simp [Lit.wf, IntKind.min, IntKind.max, IntKind.signed, IntKind.bits] at h
  unfold InI
  omega
theorem ginu {a : Int} (h : (Lit.int .u64 a).wf = true) : 0 ≤ a ∧ a < 18446744073709551616 := by
  simp [Lit.wf, IntKind.min, IntKind.max, IntKind.signed, IntKind.bits] at h
  omega
variable {H : Type} {enc : TypeId × Value → H} {w : World} {base : Nat} {sp : Nat → Bool} {held : Bool}
theorem glist5 {α : Type} {cs : List α} (h : cs.length = 5) : ∃ c0 c1 c2 c3 c4, cs = [c0, c1, c2, c3, c4] := by
  match cs, h with
  | [a, b, c, d, e], _ => exact ⟨a, b, c, d, e, rfl⟩
theorem garray6 {α : Type} {cs : Array α} (h : cs.size = 6) : ∃ c0 c1 c2 c3 c4 c5, cs = #[c0, c1, c2, c3, c4, c5] := by
  obtain ⟨l⟩ := cs
  match l, h with
  | [a, b, c, d, e, f], _ => exact ⟨a, b, c, d, e, f, rfl⟩
variable {H : Type} {enc : TypeId × Value → H} {w : World} {base : Nat} {sp : Nat → Bool} {held : Bool}
theorem bulk_one (d : DataW H) : 1 ≤ Rows.uptoBulk d := by
  cases d with
  | lit l => cases l <;> simp [Rows.uptoBulk]
  | _ => simp [Rows.uptoBulk]
theorem bulk_sum : ∀ l : List (DataW H), Rows.uptoBulkAll l = (l.map Rows.uptoBulk).sum
  | [] => rfl
  | d :: l => by rw [Rows.uptoBulkAll, bulk_sum l, List.map_cons, List.sum_cons]
theorem sum_pt {α β : Type} (f : α → Nat) (h : β → Nat) : ∀ (l : List α) (k : List β), l.length = k.length → (∀ (i : Nat) a b, l[i]? = some a → k[i]? = some b → f a ≤ h b) → (l.map f).sum ≤ (k.map h).sum
  | [], [], _, _ => Nat.le_refl _
  | a :: l, b :: k, hl, hp => by
    have h0 := hp 0 a b rfl rfl
    have h1 := sum_pt f h l k (by simpa using hl) (fun i a' b' ha hb => hp (i + 1) a' b' (by simpa using ha) (by simpa using hb))
    simp only [List.map_cons, List.sum_cons]
    omega
theorem open_rowsB {β : Type} {t e : TypeId} {sz : Nat} (ht : Tryz.prog.underlying t = some (.slice e)) (hc : Tryz.prog.cellsOf e = sz) (hsz : 0 < sz) (R : List Value → β → Prop) (μ : β → Nat) (hR : ∀ {fuel : Nat} {cs : List Value} {x : DataW H × List MemPlace}, DataW.trod enc Tryz.prog w base sp held fuel e cs = some x → ∃ o : β, R cs o ∧ μ o ≤ Rows.uptoBulk x.1)
    {fuel : Nat} {v : Value} {x : DataW H × List MemPlace} (hf : DataW.trod enc Tryz.prog w base sp held fuel t [v] = some x) :
    ∃ (ds : List β) (a : Option Addr) (cap : Nat), v = .slice a ds.length cap ∧ ds.length ≤ cap ∧ (ds.map μ).sum + 1 ≤ Rows.uptoBulk x.1 ∧ ∀ (i : Nat) o, ds[i]? = some o → ∃ cs q off, R cs o ∧ a = some ⟨q, off, none⟩ ∧ q < w.heap.size ∧ cs.length = sz ∧ ∀ j, j < sz → w.cell? ⟨q, off + i * sz + j, none⟩ = cs[j]? := by
  rcases DataW.trod_slice ht hf with ⟨hcs, _⟩ | ⟨a, l, c, elems, rest, n, _, hcs, hd, _, hl, hm, hel, hget, _⟩
  · simp at hcs
    subst hcs
    exact ⟨[], none, 0, rfl, Nat.le_refl _, bulk_one _, fun i o ho => by simp at ho⟩
  · simp at hcs
    subst hcs
    have hsp : 0 < l → a.spot = none := fun h0l => by
      have h1 := hget 0 h0l
      rw [hc, List.getElem?_eq_getElem (by omega)] at h1
      obtain ⟨cs, hcc, -⟩ := Option.bind_eq_some_iff.1 h1
      have hs := World.cells?_some hcc
      have hcl : cs.length = sz := hs.2.1
      have h0 := hs.2.2 0 (by omega)
      rw [List.getElem?_eq_getElem (by omega)] at h0
      simpa [Addr.add] using World.cell?_spot h0
    obtain ⟨ds, hdl, hds⟩ := list_choice (fun i o => (∃ cs q off, R cs o ∧ some a = some ⟨q, off, none⟩ ∧ q < w.heap.size ∧ cs.length = sz ∧ ∀ j, j < sz → w.cell? ⟨q, off + i * sz + j, none⟩ = cs[j]?) ∧ ∀ y, elems[i]? = some y → μ o ≤ Rows.uptoBulk y.1) l (fun i hi => by
      have h1 := hget i hi
      rw [hc, List.getElem?_eq_getElem (by omega)] at h1
      obtain ⟨cs, hcc, htt⟩ := Option.bind_eq_some_iff.1 h1
      obtain ⟨o, ho, hmu⟩ := hR htt
      have hs := World.cells?_some hcc
      obtain ⟨g, off, spot⟩ := a
      have hcl : cs.length = sz := hs.2.1
      have h0 := hs.2.2 0 (by omega)
      have hspot : spot = none := hsp (by omega)
      subst hspot
      simp only [gplus] at h0 hs
      rw [List.getElem?_eq_getElem (by omega)] at h0
      exact ⟨o, ⟨cs, g, off, ho, rfl, World.block_lt_of_cell? _ _ h0, hcl, fun j hj => hs.2.2 j (by omega)⟩, fun y hy => by
        rw [List.getElem?_eq_getElem (by omega)] at hy
        cases hy
        exact hmu⟩)
    refine ⟨ds, some a, c, by rw [hdl], by rw [hdl]; exact hl, ?_, fun i o ho => (hds i o ho).1⟩
    have h9 := sum_pt μ (fun y : DataW H × List MemPlace => Rows.uptoBulk y.1) ds elems (by omega) (fun i o y ho hy => (hds i o ho).2 y hy)
    rw [hd]
    simp only [Rows.uptoBulk, bulk_sum, List.map_map]
    have h8 : (elems.map (Rows.uptoBulk ∘ fun y : DataW H × List MemPlace => y.1)).sum = (elems.map (fun y : DataW H × List MemPlace => Rows.uptoBulk y.1)).sum := rfl
    omega
theorem sum_ones {α : Type} : ∀ l : List α, (l.map (fun _ => 1)).sum = l.length
  | [] => rfl
  | a :: l => by rw [List.map_cons, List.sum_cons, sum_ones l, List.length_cons]; omega
theorem open_numsB {t e : TypeId} {k : IntKind} (ht : Tryz.prog.underlying t = some (.slice e)) (he : Tryz.prog.underlying e = some (.int k)) (hc : Tryz.prog.cellsOf e = 1) {fuel : Nat} {v : Value} {x : DataW H × List MemPlace} (hf : DataW.trod enc Tryz.prog w base sp held fuel t [v] = some x) :
    ∃ l : List Int, Lrd w.heap.size w v k l ∧ (∀ z, z ∈ l → (Lit.int k z).wf = true) ∧ l.length + 1 ≤ Rows.uptoBulk x.1 := by
  obtain ⟨l, a, cap, h1, h2, h3, h4⟩ := open_rowsB ht hc (by decide) (fun cs (z : Int) => cs = [.int k z] ∧ (Lit.int k z).wf = true) (fun _ => 1) (fun {fuel cs x} hf' => by
    obtain ⟨z, g0, _, wf⟩ := DataW.trod_int he hf'
    exact ⟨z, ⟨g0, wf⟩, bulk_one _⟩) hf
  rw [sum_ones] at h3
  refine ⟨l, ⟨a, cap, h1, h2, fun f z hz => ?_⟩, fun z hz => ?_, h3⟩
  · obtain ⟨cs, q, off, ⟨rfl, -⟩, e1, e2, -, e3⟩ := h4 f z hz
    have := e3 0 (by decide)
    rw [Nat.mul_one, Nat.add_zero] at this
    exact ⟨q, off, e1, e2, this⟩
  · obtain ⟨i, hi⟩ := List.getElem?_of_mem hz
    obtain ⟨cs, q, off, ⟨-, hw⟩, -⟩ := h4 i z hi
    exact hw
def ROc (w : World) (cs : List Value) (o : OL) : Prop :=
  cs = o.cells.toList ∧ obR o.o ∧ Lrd w.heap.size w o.vp .i64 o.o.ps ∧ Lrd w.heap.size w o.vr .u64 (o.o.rs.map Int.ofNat)
theorem open_objB {fuel : Nat} {cs : List Value} {x : DataW H × List MemPlace} (hf : DataW.trod enc Tryz.prog w base sp held fuel 39 cs = some x) : ∃ o : OL, ROc w cs o ∧ 1 + (o.o.ps.length + o.o.rs.length) ≤ Rows.uptoBulk x.1 := by
  obtain ⟨xs, n, _, hx, hl, hlen, hf'⟩ := DataW.trod_struct Tryz.underlying39 hf
  rw [gno] at hl
  obtain ⟨c0, c1, c2, c3, c4, rfl⟩ := glist5 hl
  have key : ∀ i, i < 5 → ∃ y, xs[i]? = some y := fun i hi => ⟨_, List.getElem?_eq_getElem (by rw [hlen]; exact hi)⟩
  have f0 : DataW.trod enc Tryz.prog w base sp held n 25 [c0] = xs[0]? := by simpa [gn3, gnu, gni, gnw] using hf' 0 _ rfl
  obtain ⟨y0, e0⟩ := key 0 (by decide)
  rw [e0] at f0
  obtain ⟨z0, g0, _, wf0⟩ := DataW.trod_int Tryz.underlying25 f0
  have f1 : DataW.trod enc Tryz.prog w base sp held n 3 [c1] = xs[1]? := by simpa [gn3, gnu, gni, gnw] using hf' 1 _ rfl
  obtain ⟨y1, e1⟩ := key 1 (by decide)
  rw [e1] at f1
  obtain ⟨z1, g1, _, wf1⟩ := DataW.trod_int Tryz.underlying3 f1
  have f2 : DataW.trod enc Tryz.prog w base sp held n 3 [c2] = xs[2]? := by simpa [gn3, gnu, gni, gnw] using hf' 2 _ rfl
  obtain ⟨y2, e2⟩ := key 2 (by decide)
  rw [e2] at f2
  obtain ⟨z2, g2, _, wf2⟩ := DataW.trod_int Tryz.underlying3 f2
  have f3 : DataW.trod enc Tryz.prog w base sp held n 24 [c3] = xs[3]? := by simpa [gn3, gnu, gni, gnw] using hf' 3 _ rfl
  obtain ⟨y3, e3⟩ := key 3 (by decide)
  rw [e3] at f3
  obtain ⟨ps, hps, hpi, hpw⟩ := open_numsB Tryz.underlying24 Tryz.underlying3 gn3 f3
  have f4 : DataW.trod enc Tryz.prog w base sp held n 37 [c4] = xs[4]? := by simpa [gn3, gnu, gni, gnw] using hf' 4 _ rfl
  obtain ⟨y4, e4⟩ := key 4 (by decide)
  rw [e4] at f4
  obtain ⟨rs, hrs, hri, hrw⟩ := open_numsB Tryz.underlying37 Tryz.underlying25 gnu f4
  have exs : xs = [y0, y1, y2, y3, y4] := by
    match xs, hlen, e0, e1, e2, e3, e4 with
    | [a, b, c, d, e], _, e0, e1, e2, e3, e4 => simp at e0 e1 e2 e3 e4; rw [e0, e1, e2, e3, e4]
  have hbk : 1 + (ps.length + rs.length) ≤ Rows.uptoBulk x.1 := by
    rw [hx, exs]
    simp only [Rows.uptoBulk, bulk_sum, List.map_cons, List.map_nil, List.sum_cons, List.sum_nil]
    omega
  simp only [List.cons.injEq, and_true] at g0 g1 g2
  subst g0 g1 g2
  have hz0 := ginu wf0
  have ers : (rs.map Int.toNat).map Int.ofNat = rs := Im.map_ofNat_toNat (fun z hz => (ginu (hri z hz)).1)
  refine ⟨⟨⟨z0.toNat, z1, z2, ps, rs.map Int.toNat⟩, c3, c4⟩, ⟨?_, ⟨by show z0.toNat < _; omega, gin wf1, gin wf2, fun n hn => by
    obtain ⟨z, hz, rfl⟩ := List.mem_map.1 hn
    have := ginu (hri z hz)
    omega⟩, hps, by rw [ers]; exact hrs⟩, by simp only [List.length_map]; exact hbk⟩
  show _ = [Value.int .u64 ((z0.toNat : Nat) : Int), _, _, _, _]
  rw [show ((z0.toNat : Nat) : Int) = z0 by omega]
theorem open_objsB {fuel : Nat} {v : Value} {x : DataW H × List MemPlace} (hf : DataW.trod enc Tryz.prog w base sp held fuel 22 [v] = some x) :
    ∃ os : List OL, Ord w.heap.size w v os ∧ (∀ o, o ∈ os → obR o.o) ∧ os.length + osum os + 1 ≤ Rows.uptoBulk x.1 := by
  obtain ⟨os, a, cap, h1, h2, h3, h4⟩ := open_rowsB Tryz.underlying22 gno (by decide) (ROc w) (fun o => 1 + (o.o.ps.length + o.o.rs.length)) (fun hf' => open_objB hf') hf
  have hs : ∀ l : List OL, (l.map (fun o => 1 + (o.o.ps.length + o.o.rs.length))).sum = l.length + osum l := fun l => by
    induction l with
    | nil => rfl
    | cons y r ih =>
      simp only [osum, List.map_cons, List.sum_cons, List.length_cons] at ih ⊢
      omega
  rw [hs] at h3
  refine ⟨os, ⟨a, cap, h1, fun i o ho => ?_⟩, fun o ho => ?_, h3⟩
  · obtain ⟨cs, q, off, ⟨rfl, -, hp, hr⟩, e1, e2, -, e3⟩ := h4 i o ho
    exact ⟨hp, hr, q, off, e1, e2, fun j hj => by rw [e3 j hj, Array.getElem?_toList]⟩
  · obtain ⟨i, hi⟩ := List.getElem?_of_mem ho
    obtain ⟨cs, q, off, ⟨-, hob, -, -⟩, -⟩ := h4 i o hi
    exact hob
theorem open_frsB {fuel : Nat} {v : Value} {x : DataW H × List MemPlace} (hf : DataW.trod enc Tryz.prog w base sp held fuel 48 [v] = some x) :
    ∃ fs : List (Value × List Int), Frd w.heap.size w v fs ∧ 1 + (fs.length + fsum (fs.map (·.2))) ≤ Rows.uptoBulk x.1 := by
  obtain ⟨fs, a, cap, h1, h2, h3, h4⟩ := open_rowsB Tryz.underlying48 gni (by decide) (fun cs (y : Value × List Int) => cs = [y.1] ∧ Lrd w.heap.size w y.1 .i64 y.2) (fun y => 1 + y.2.length) (fun {fuel cs x} hf' => by
    have hcs : ∃ c, cs = [c] := by
      rcases DataW.trod_slice Tryz.underlying24 hf' with ⟨hcs, _⟩ | ⟨a, l, c, _, _, _, _, hcs, _⟩
      · exact ⟨_, hcs⟩
      · exact ⟨_, hcs⟩
    obtain ⟨c, rfl⟩ := hcs
    obtain ⟨l, hl, -, hw⟩ := open_numsB Tryz.underlying24 Tryz.underlying3 gn3 hf'
    exact ⟨(c, l), ⟨rfl, hl⟩, by show 1 + l.length ≤ _; omega⟩) hf
  have hs : ∀ l : List (Value × List Int), (l.map (fun y => 1 + y.2.length)).sum = l.length + fsum (l.map (·.2)) := fun l => by
    induction l with
    | nil => rfl
    | cons y r ih =>
      simp only [fsum, List.map_cons, List.sum_cons, List.length_cons] at ih ⊢
      omega
  rw [hs] at h3
  refine ⟨fs, ⟨a, cap, h1, fun i y hy => ?_⟩, by omega⟩
  obtain ⟨cs, q, off, ⟨rfl, hl⟩, e1, e2, -, e3⟩ := h4 i y hy
  have := e3 0 (by decide)
  rw [Nat.mul_one, Nat.add_zero] at this
  exact ⟨hl, q, off, e1, e2, this⟩
theorem open_thsB {fuel : Nat} {v : Value} {x : DataW H × List MemPlace} (hf : DataW.trod enc Tryz.prog w base sp held fuel 23 [v] = some x) :
    ∃ ts : List (Value × List (Value × List Int)), Trd w.heap.size w v ts ∧ ts.length + tsum ts + 1 ≤ Rows.uptoBulk x.1 := by
  obtain ⟨ts, a, cap, h1, h2, h3, h4⟩ := open_rowsB Tryz.underlying23 gnf (by decide) (fun cs (y : Value × List (Value × List Int)) => cs = [y.1] ∧ Frd w.heap.size w y.1 y.2) (fun y => 1 + (y.2.length + fsum (y.2.map (·.2)))) (fun {fuel cs x} hf' => by
    have hcs : ∃ c, cs = [c] := by
      rcases DataW.trod_slice Tryz.underlying48 hf' with ⟨hcs, _⟩ | ⟨a, l, c, _, _, _, _, hcs, _⟩
      · exact ⟨_, hcs⟩
      · exact ⟨_, hcs⟩
    obtain ⟨c, rfl⟩ := hcs
    obtain ⟨l, hl, hw⟩ := open_frsB hf'
    exact ⟨(c, l), ⟨rfl, hl⟩, hw⟩) hf
  have hs : ∀ l : List (Value × List (Value × List Int)), (l.map (fun y => 1 + (y.2.length + fsum (y.2.map (·.2))))).sum = l.length + tsum l := fun l => by
    induction l with
    | nil => rfl
    | cons y r ih =>
      simp only [tsum, List.map_cons, List.sum_cons, List.length_cons] at ih ⊢
      omega
  rw [hs] at h3
  refine ⟨ts, ⟨a, cap, h1, fun i y hy => ?_⟩, h3⟩
  obtain ⟨cs, q, off, ⟨rfl, hl⟩, e1, e2, -, e3⟩ := h4 i y hy
  have := e3 0 (by decide)
  rw [Nat.mul_one, Nat.add_zero] at this
  exact ⟨hl, q, off, e1, e2, this⟩
theorem open_graphB {r : Reach} {b0 : Nat} {v : Value} {d : DataW H} {p : List MemPlace}
    (hv' : Value.okWide Tryz.prog w r b0 27 v) (h : DataW.Trod enc Tryz.prog w base sp held 27 v d p) (hB : Rows.uptoBulk d ≤ 1048576) : ∃ (vo vs vh vr vq : Value) (os : List OL) (ts : List (Value × List (Value × List Int))) (g : Im.Gr), v = .agg (gcs vo vs vh vr vq g.next) ∧
      Grd w.heap.size w vo vs vh vr vq os ts g ∧ gsz os ts g ≤ 1048576 ∧ (∀ x, x ∈ os → obR x.o) := by
  obtain ⟨cs, rfl, hsz⟩ := okWide_struct Tryz.underlying27 hv'
  obtain ⟨c0, c1, c2, c3, c4, c5, rfl⟩ := garray6 (hsz.trans gng)
  obtain ⟨fuel, hf⟩ := h
  obtain ⟨xs, n, _, hx, _, hlen, hf'⟩ := DataW.trod_struct Tryz.underlying27 hf
  have key : ∀ i, i < 6 → ∃ y, xs[i]? = some y := fun i hi => ⟨_, List.getElem?_eq_getElem (by rw [hlen]; exact hi)⟩
  have f0 : DataW.trod enc Tryz.prog w base sp held n 22 [c0] = xs[0]? := by simpa [Value.cells, gn3, gnu, gni, gnw, gnos, gnt] using hf' 0 _ rfl
  obtain ⟨y0, e0⟩ := key 0 (by decide)
  rw [e0] at f0
  obtain ⟨os, ho, hro, hw0⟩ := open_objsB f0
  have f1 : DataW.trod enc Tryz.prog w base sp held n 23 [c1] = xs[1]? := by simpa [Value.cells, gn3, gnu, gni, gnw, gnos, gnt] using hf' 1 _ rfl
  obtain ⟨y1, e1⟩ := key 1 (by decide)
  rw [e1] at f1
  obtain ⟨ts, ht, hw1⟩ := open_thsB f1
  have f2 : DataW.trod enc Tryz.prog w base sp held n 24 [c2] = xs[2]? := by simpa [Value.cells, gn3, gnu, gni, gnw, gnos, gnt] using hf' 2 _ rfl
  obtain ⟨y2, e2⟩ := key 2 (by decide)
  rw [e2] at f2
  obtain ⟨l2, h2, -, hw2⟩ := open_numsB Tryz.underlying24 Tryz.underlying3 gn3 f2
  have f3 : DataW.trod enc Tryz.prog w base sp held n 24 [c3] = xs[3]? := by simpa [Value.cells, gn3, gnu, gni, gnw, gnos, gnt] using hf' 3 _ rfl
  obtain ⟨y3, e3⟩ := key 3 (by decide)
  rw [e3] at f3
  obtain ⟨l3, h3, -, hw3⟩ := open_numsB Tryz.underlying24 Tryz.underlying3 gn3 f3
  have f4 : DataW.trod enc Tryz.prog w base sp held n 24 [c4] = xs[4]? := by simpa [Value.cells, gn3, gnu, gni, gnw, gnos, gnt] using hf' 4 _ rfl
  obtain ⟨y4, e4⟩ := key 4 (by decide)
  rw [e4] at f4
  obtain ⟨l4, h4, -, hw4⟩ := open_numsB Tryz.underlying24 Tryz.underlying3 gn3 f4
  have f5 : DataW.trod enc Tryz.prog w base sp held n 25 [c5] = xs[5]? := by simpa [Value.cells, gn3, gnu, gni, gnw, gnos, gnt] using hf' 5 _ rfl
  obtain ⟨y5, e5⟩ := key 5 (by decide)
  rw [e5] at f5
  obtain ⟨z5, g5, _, wf5⟩ := DataW.trod_int Tryz.underlying25 f5
  have exs : xs = [y0, y1, y2, y3, y4, y5] := by
    match xs, hlen, e0, e1, e2, e3, e4, e5 with
    | [a, b, c, d, e, f], _, e0, e1, e2, e3, e4, e5 => simp at e0 e1 e2 e3 e4 e5; rw [e0, e1, e2, e3, e4, e5]
  simp only [Prod.mk.injEq] at hx
  have hz : gsz os ts ⟨z5.toNat, os.map (·.o), ts.map (fun t => t.2.map (·.2)), l2, l3, l4⟩ ≤ 1048576 := by
    rw [hx.1, exs] at hB
    simp only [Rows.uptoBulk, bulk_sum, List.map_cons, List.map_nil, List.sum_cons, List.sum_nil] at hB
    unfold gsz szs
    simp only
    omega
  have hz5 := ginu wf5
  simp only [List.cons.injEq, and_true] at g5
  subst g5
  have hol : ∀ x, x ∈ os → x.o.ps.length + x.o.rs.length ≤ osum os := sum_mem (fun x : OL => x.o.ps.length + x.o.rs.length) os
  have hos : osum os ≤ 1048576 := by unfold gsz at hz; omega
  refine ⟨c0, c1, c2, c3, c4, os, ts, ⟨z5.toNat, os.map (·.o), ts.map (fun t => t.2.map (·.2)), l2, l3, l4⟩, ?_, ⟨ho, ht, h2, h3, h4, rfl, rfl, by show z5.toNat < _; omega, fun o ho' => ?_⟩, hz, hro⟩
  · show _ = Value.agg (gcs c0 c1 c2 c3 c4 ((z5.toNat : Nat) : Int))
    rw [show ((z5.toNat : Nat) : Int) = z5 by omega]
  · obtain ⟨x, hx', rfl⟩ := List.mem_map.1 ho'
    have h8 := hol x hx'
    have h9 := hro x hx'
    exact ⟨h9.1, h9.2.1, h9.2.2.1, by omega, by omega⟩
end Go.Proofs.YtkekaifiahjljaaGreatDoor
namespace Go.Proofs.YtkekaifiahjljaaGreatDoor
open Go.ChangeShapes Go.WideShapes Go.ChangeAt Go.WideMaps Go.WideElems Go.RowKit
theorem gK : Tryz.prog.globalNamed "midden/cell.kinds" = some 0 := by kernel_rfl
theorem gB : Tryz.prog.globalNamed "midden/cell.begins" = some 1 := by kernel_rfl
theorem tK : (Tryz.prog.globals[0]?).map (·.type) = some 220 := by kernel_rfl
theorem tB : (Tryz.prog.globals[1]?).map (·.type) = some 221 := by kernel_rfl
theorem n3 : Tryz.prog.cellsOf 3 = 1 := by kernel_rfl
theorem n4 : Tryz.prog.cellsOf 4 = 1 := by kernel_rfl
theorem n62 : Tryz.prog.cellsOf 219 = 2 := by kernel_rfl
theorem map_get {α β : Type} {f : α → β} {xs : List α} {ds : List β} (h : xs.map f = ds) {i : Nat} {d : β} (hd : ds[i]? = some d) : ∃ y, xs[i]? = some y ∧ f y = d := by
  subst h
  simpa [List.getElem?_map, Option.map_eq_some_iff] using hd
theorem take_one {α : Type} {cs : List α} {i : Nat} {c : α} (h : (cs.drop i).take 1 = [c]) : cs[i]? = some c := by
  have h1 : ((cs.drop i).take 1)[0]? = some c := by rw [h]; rfl
  simpa [List.getElem?_take, List.getElem?_drop] using h1
theorem arr_int {H : Type} {enc : TypeId × Value → H} {w : World} {base : Nat} {sp : Nat → Bool} {held : Bool} {m : Nat} {cs : List Value} {xs : List (DataW H × List MemPlace)} {ds : List (DataW H)} {i : Nat} {k : Int}
    (h : DataW.trod enc Tryz.prog w base sp held m 3 ((cs.drop i).take 1) = xs[i]?) (hx : xs.map (·.1) = ds) (hd : ds[i]? = some (.lit (.int .i64 k))) : cs[i]? = some (.int .i64 k) := by
  obtain ⟨y, hy, e⟩ := map_get hx hd
  rw [hy] at h
  obtain ⟨k', e1, e2, _⟩ := DataW.trod_int Tryz.underlying3 h
  rw [e2] at e
  simp at e
  subst e
  exact take_one e1
theorem take_two {α : Type} {cs : List α} {i : Nat} {c d : α} (h : (cs.drop i).take 2 = [c, d]) : cs[i]? = some c ∧ cs[i + 1]? = some d := by
  have h1 : ((cs.drop i).take 2)[0]? = some c := by rw [h]; rfl
  have h2 : ((cs.drop i).take 2)[1]? = some d := by rw [h]; rfl
  exact ⟨by simpa [List.getElem?_take, List.getElem?_drop] using h1, by simpa [List.getElem?_take, List.getElem?_drop] using h2⟩
theorem arr_kind {H : Type} {enc : TypeId × Value → H} {w : World} {base : Nat} {sp : Nat → Bool} {held : Bool} {m : Nat} {cs : List Value} {xs : List (DataW H × List MemPlace)} {ds : List (DataW H)} {i j : Nat} {b : Bool} {k : Int}
    (h : DataW.trod enc Tryz.prog w base sp held m 219 ((cs.drop j).take 2) = xs[i]?) (hx : xs.map (·.1) = ds) (hd : ds[i]? = some (.agg [.lit (.bool b), .lit (.int .i64 k)])) : cs[j]? = some (.bool b) ∧ cs[j + 1]? = some (.int .i64 k) := by
  obtain ⟨y, hy, e⟩ := map_get hx hd
  rw [hy] at h
  obtain ⟨ys, n, rfl, e2, hl, hn, hf⟩ := DataW.trod_struct Tryz.underlying219 h
  rw [n62] at hl
  have f0 : DataW.trod enc Tryz.prog w base sp held n 4 ((((cs.drop j).take 2).drop 0).take (Tryz.prog.cellsOf 4)) = ys[0]? := hf 0 _ rfl
  have f1 : DataW.trod enc Tryz.prog w base sp held n 3 ((((cs.drop j).take 2).drop 1).take (Tryz.prog.cellsOf 3)) = ys[1]? := hf 1 _ rfl
  rw [n4] at f0
  rw [n3] at f1
  rw [e2] at e
  simp only [DataW.agg.injEq] at e
  obtain ⟨y0, hy0, e0⟩ := map_get e (i := 0) rfl
  obtain ⟨y1, hy1, e1⟩ := map_get e (i := 1) rfl
  rw [hy0] at f0
  rw [hy1] at f1
  obtain ⟨b', g0, g1⟩ := DataW.trod_bool Tryz.underlying4 f0
  obtain ⟨k', q0, q1, _⟩ := DataW.trod_int Tryz.underlying3 f1
  rw [g1] at e0
  rw [q1] at e1
  simp at e0 e1
  subst e0 e1
  generalize hc : (cs.drop j).take 2 = cc at *
  match cc, hl with
  | [c, d], _ =>
    simp at g0 q0
    subst g0 q0
    exact take_two hc
abbrev laidBoth : List (String × DataW Unit) := [("midden/cell.kinds", Rows.laid_midden_cell_kinds), ("midden/cell.begins", Rows.laid_midden_cell_begins)]
theorem laidB_of {W : World} {cs : Array Value} {enc : TypeId × Value → Unit} {base fuel : Nat} {sp : Nat → Bool} {held : Bool} {p : List MemPlace} (hv : World.var? Tryz.prog W "midden/cell.begins" = some cs) (hd : DataW.trod enc Tryz.prog W base sp held fuel 221 cs.toList = some (Rows.laid_midden_cell_begins, p)) : LaidB W := by
  obtain ⟨xs, m, rfl, hx, hlen, hn, hel⟩ := DataW.trod_array Tryz.underlying221 hd
  simp only [Prod.mk.injEq, Rows.laid_midden_cell_begins, DataW.agg.injEq] at hx
  have hx' := hx.1.symm
  have hc : ∀ i k, i < 9 → _ → W.cell? ⟨1, i, none⟩ = some (.int .i64 k) := fun i k hi hk => by
    have h1 := hel i hi
    rw [n3, Nat.mul_one] at h1
    have h2 := arr_int h1 hx' (k := k) hk
    rw [World.var?_cell gB hv i]
    simpa using h2
  exact ⟨hc 0 _ (by decide) rfl, hc 1 _ (by decide) rfl, hc 2 _ (by decide) rfl, hc 3 _ (by decide) rfl, hc 4 _ (by decide) rfl, hc 5 _ (by decide) rfl, hc 6 _ (by decide) rfl, hc 7 _ (by decide) rfl, hc 8 _ (by decide) rfl⟩
theorem laidK_of {W : World} {cs : Array Value} {enc : TypeId × Value → Unit} {base fuel : Nat} {sp : Nat → Bool} {held : Bool} {p : List MemPlace} (hv : World.var? Tryz.prog W "midden/cell.kinds" = some cs) (hd : DataW.trod enc Tryz.prog W base sp held fuel 220 cs.toList = some (Rows.laid_midden_cell_kinds, p)) : LaidK W := by
  obtain ⟨xs, m, rfl, hx, hlen, hn, hel⟩ := DataW.trod_array Tryz.underlying220 hd
  simp only [Prod.mk.injEq, Rows.laid_midden_cell_kinds, DataW.agg.injEq] at hx
  have hx' := hx.1.symm
  have hc : ∀ i b k, i < 5 → _ → W.cell? ⟨0, i * 2, none⟩ = some (.bool b) ∧ W.cell? ⟨0, i * 2 + 1, none⟩ = some (.int .i64 k) := fun i b k hi hk => by
    have h1 := hel i hi
    rw [n62] at h1
    have h2 := arr_kind h1 hx' (b := b) (k := k) hk
    rw [World.var?_cell gK hv (i * 2), World.var?_cell gK hv (i * 2 + 1)]
    simpa using h2
  have h0 := hc 0 _ _ (by decide) rfl
  have h1 := hc 1 _ _ (by decide) rfl
  have h2 := hc 2 _ _ (by decide) rfl
  have h3 := hc 3 _ _ (by decide) rfl
  have h4 := hc 4 _ _ (by decide) rfl
  exact ⟨h0.1, h0.2, h1.1, h1.2, h2.1, h2.2, h3.1, h3.2, h4.1, h4.2⟩
theorem of_laidBoth {W : World} (h : laidMetH Tryz.prog laidBoth W) : Laid W := by
  rw [MakeChecks.laidMetH_plain _ _ _ (by kernel_rfl)] at h
  obtain ⟨ps, ⟨g0, t0, cs0, f0, p0, q0, hg0, ht0, hv0, hd0, ⟨g1, t1, cs1, f1, p1, q1, hg1, ht1, hv1, hd1, _, _⟩, _⟩, _, _⟩ := h
  obtain rfl := Option.some.inj (gK.symm.trans hg0)
  obtain rfl := Option.some.inj (gB.symm.trans hg1)
  obtain rfl := Option.some.inj (tK.symm.trans ht0)
  obtain rfl := Option.some.inj (tB.symm.trans ht1)
  exact ⟨laidB_of hv1 hd1, laidK_of hv0 hd0⟩
theorem own : ownKnob Tryz.prog.godebug = none := by kernel_rfl
theorem laidOut : laidOutB Tryz.prog = true := by kernel_rfl
end Go.Proofs.YtkekaifiahjljaaGreatDoor
