import Derived.Test.YtckgcpoheodbcaaDoorPTs
import Derived.ProofKit
import Derived.OpenShut
import Derived.ChangeOld
import Derived.ChangeSlices
import Derived.Lib.SmallJoins
import Derived.Test.YtckgcpoheodbcaaDoorLGE
/-
  Images: a graph that comes in, and what it weighs.
-/
set_option linter.unusedVariables false
set_option maxRecDepth 20000
namespace Go.Proofs.YtckgcpoheodbcaaDoor
open Go.ChangeShapes Go.WideShapes Go.ChangeAt Go.WideMaps Go.WideElems Go.RowKit Go.Shelf

theorem gn3 : Tryd.prog.cellsOf 3 = 1 := by kernel_rfl
theorem gnu : Tryd.prog.cellsOf 25 = 1 := by kernel_rfl
theorem gni : Tryd.prog.cellsOf 24 = 1 := by kernel_rfl
theorem gnw : Tryd.prog.cellsOf 60 = 1 := by kernel_rfl
theorem gnf : Tryd.prog.cellsOf 30 = 1 := by kernel_rfl
theorem gnt : Tryd.prog.cellsOf 23 = 1 := by kernel_rfl
theorem gno : Tryd.prog.cellsOf 62 = 5 := by kernel_rfl
theorem gnos : Tryd.prog.cellsOf 22 = 1 := by kernel_rfl
theorem gng : Tryd.prog.cellsOf 27 = 6 := by kernel_rfl
theorem gb3 : 8 ≤ Tryd.prog.bytesOf 3 := by rw [show Tryd.prog.bytesOf 3 = 8 by kernel_rfl]; decide
theorem gbu : 8 ≤ Tryd.prog.bytesOf 25 := by rw [show Tryd.prog.bytesOf 25 = 8 by kernel_rfl]; decide
theorem gbi : 8 ≤ Tryd.prog.bytesOf 24 := by rw [show Tryd.prog.bytesOf 24 = 24 by kernel_rfl]; decide
theorem gbf : 8 ≤ Tryd.prog.bytesOf 30 := by rw [show Tryd.prog.bytesOf 30 = 24 by kernel_rfl]; decide
theorem gbo : 8 ≤ Tryd.prog.bytesOf 62 := by rw [show Tryd.prog.bytesOf 62 = 72 by kernel_rfl]; decide
theorem gplus (g off n : Nat) : (⟨g, off, none⟩ : Addr).add n = ⟨g, off + n, none⟩ := Addr.add_lit _ _ _
theorem gin {a : Int} (h : (Lit.int .i64 a).wf = true) : InI a := by
  simp [Lit.wf, IntKind.min, IntKind.max, IntKind.signed, IntKind.bits] at h
  unfold InI
  omega
theorem ginu {a : Int} (h : (Lit.int .u64 a).wf = true) : 0 ≤ a ∧ a < 18446744073709551616 := by
  simp [Lit.wf, IntKind.min, IntKind.max, IntKind.signed, IntKind.bits] at h
  omega

variable {H : Type} {enc : TypeId × Value → H} {w : World} {base : Nat} {sp : Nat → Bool} {held : Bool}

theorem gmem_weightsAll {P : Program} {e : TypeId} {d : DataW H} {k : Nat} : ∀ {l : List (DataW H)}, d ∈ l → k ∈ d.weights P e → k ∈ DataW.weightsAll P e l
  | y :: l, h, hk => by
    rw [DataW.weightsAll, List.mem_append]
    rcases List.mem_cons.1 h with rfl | h
    · exact .inl hk
    · exact .inr (gmem_weightsAll h hk)

/-- So long a list is weighed. -/
def Wt (t : TypeId) (x : DataW H) (n : Nat) : Prop := n = 0 ∨ ∃ k, k ∈ x.weights Tryd.prog t ∧ n * 8 ≤ k

/-- Rows of things that come in. -/
theorem open_rows {β : Type} {t e : TypeId} {sz : Nat} (ht : Tryd.prog.underlying t = some (.slice e)) (hc : Tryd.prog.cellsOf e = sz) (hsz : 0 < sz) (hb : 8 ≤ Tryd.prog.bytesOf e) (R : List Value → DataW H → β → Prop) (hR : ∀ {fuel : Nat} {cs : List Value} {x : DataW H × List MemPlace}, DataW.trod enc Tryd.prog w base sp held fuel e cs = some x → ∃ o : β, R cs x.1 o)
    {fuel : Nat} {v : Value} {x : DataW H × List MemPlace} (hf : DataW.trod enc Tryd.prog w base sp held fuel t [v] = some x) :
    ∃ (ds : List β) (a : Option Addr) (cap : Nat), v = .slice a ds.length cap ∧ ds.length ≤ cap ∧ Wt t x.1 ds.length ∧ ∀ (i : Nat) o, ds[i]? = some o → ∃ cs d q off, R cs d o ∧ (∀ k, k ∈ d.weights Tryd.prog e → k ∈ x.1.weights Tryd.prog t) ∧ a = some ⟨q, off, none⟩ ∧ q < w.heap.size ∧ cs.length = sz ∧ ∀ j, j < sz → w.cell? ⟨q, off + i * sz + j, none⟩ = cs[j]? := by
  rcases DataW.trod_slice ht hf with ⟨hcs, _⟩ | ⟨a, l, c, elems, rest, n, _, hcs, hd, _, hl, hm, hel, hget, _⟩
  · simp at hcs
    subst hcs
    exact ⟨[], none, 0, rfl, Nat.le_refl _, .inl rfl, fun i o ho => by simp at ho⟩
  · simp at hcs
    subst hcs
    have hw0 : ∀ d, d ∈ elems.map (·.1) → ∀ k, k ∈ d.weights Tryd.prog e → k ∈ x.1.weights Tryd.prog t := fun d hd' k hk => by
      rw [hd, DataW.weights]
      simp only [ht]
      exact List.mem_cons_of_mem _ (List.mem_append_left _ (gmem_weightsAll hd' hk))
    have hsp : 0 < l → a.spot = none := fun h0l => by
      have h1 := hget 0 h0l
      rw [hc, List.getElem?_eq_getElem (by omega)] at h1
      obtain ⟨cs, hcc, -⟩ := Option.bind_eq_some_iff.1 h1
      have hs := World.cells?_some hcc
      have hcl : cs.length = sz := hs.2.1
      have h0 := hs.2.2 0 (by omega)
      rw [List.getElem?_eq_getElem (by omega)] at h0
      simpa [Addr.add] using World.cell?_spot h0
    obtain ⟨ds, hdl, hds⟩ := list_choice (fun i o => ∃ cs d q off, R cs d o ∧ (∀ k, k ∈ d.weights Tryd.prog e → k ∈ x.1.weights Tryd.prog t) ∧ some a = some ⟨q, off, none⟩ ∧ q < w.heap.size ∧ cs.length = sz ∧ ∀ j, j < sz → w.cell? ⟨q, off + i * sz + j, none⟩ = cs[j]?) l (fun i hi => by
      have h1 := hget i hi
      rw [hc, List.getElem?_eq_getElem (by omega)] at h1
      obtain ⟨cs, hcc, htt⟩ := Option.bind_eq_some_iff.1 h1
      obtain ⟨o, ho⟩ := hR htt
      have hs := World.cells?_some hcc
      obtain ⟨g, off, spot⟩ := a
      have hcl : cs.length = sz := hs.2.1
      have h0 := hs.2.2 0 (by omega)
      have hspot : spot = none := hsp (by omega)
      subst hspot
      simp only [gplus] at h0 hs
      rw [List.getElem?_eq_getElem (by omega)] at h0
      exact ⟨o, cs, (elems[i]'(by omega)).1, g, off, ho, hw0 _ (List.mem_map.2 ⟨_, List.getElem_mem _, rfl⟩), rfl, World.block_lt_of_cell? _ _ h0, hcl, fun j hj => hs.2.2 j (by omega)⟩)
    refine ⟨ds, some a, c, by rw [hdl], by rw [hdl]; exact hl, .inr ⟨(elems.length + rest.length) * Tryd.prog.bytesOf e, ?_, ?_⟩, hds⟩
    · rw [hd, DataW.weights]
      simp only [ht]
      simp
    · rw [hdl, hel]
      exact Nat.mul_le_mul (by omega) hb

theorem Wt.up {t t' : TypeId} {d x : DataW H} {n : Nat} (h : Wt t d n) (hu : ∀ k, k ∈ d.weights Tryd.prog t → k ∈ x.weights Tryd.prog t') : Wt t' x n := by
  rcases h with h | ⟨k, h1, h2⟩
  · exact .inl h
  · exact .inr ⟨k, hu k h1, h2⟩

/-- A list of numbers. -/
theorem open_nums {t e : TypeId} {k : IntKind} (ht : Tryd.prog.underlying t = some (.slice e)) (he : Tryd.prog.underlying e = some (.int k)) (hc : Tryd.prog.cellsOf e = 1) (hb : 8 ≤ Tryd.prog.bytesOf e) {fuel : Nat} {v : Value} {x : DataW H × List MemPlace} (hf : DataW.trod enc Tryd.prog w base sp held fuel t [v] = some x) :
    ∃ l : List Int, Lrd w.heap.size w v k l ∧ (∀ z, z ∈ l → (Lit.int k z).wf = true) ∧ Wt t x.1 l.length := by
  obtain ⟨l, a, cap, h1, h2, h3, h4⟩ := open_rows ht hc (by decide) hb (fun cs _ (z : Int) => cs = [.int k z] ∧ (Lit.int k z).wf = true) (fun {fuel cs x} hf' => by
    obtain ⟨z, g0, _, wf⟩ := DataW.trod_int he hf'
    exact ⟨z, g0, wf⟩) hf
  refine ⟨l, ⟨a, cap, h1, h2, fun f z hz => ?_⟩, fun z hz => ?_, h3⟩
  · obtain ⟨cs, d, q, off, ⟨rfl, -⟩, -, e1, e2, -, e3⟩ := h4 f z hz
    have := e3 0 (by decide)
    rw [Nat.mul_one, Nat.add_zero] at this
    exact ⟨q, off, e1, e2, this⟩
  · obtain ⟨i, hi⟩ := List.getElem?_of_mem hz
    obtain ⟨cs, d, q, off, ⟨-, hw⟩, -⟩ := h4 i z hi
    exact hw

theorem glist5 {α : Type} {cs : List α} (h : cs.length = 5) : ∃ c0 c1 c2 c3 c4, cs = [c0, c1, c2, c3, c4] := by
  match cs, h with
  | [a, b, c, d, e], _ => exact ⟨a, b, c, d, e, rfl⟩

/-- An object. -/
def ROb (w : World) (cs : List Value) (d : DataW H) (o : OL) : Prop :=
  cs = o.cells.toList ∧ obR o.o ∧ Lrd w.heap.size w o.vp .i64 o.o.ps ∧ Lrd w.heap.size w o.vr .u64 (o.o.rs.map Int.ofNat) ∧ Wt 62 d o.o.ps.length ∧ Wt 62 d o.o.rs.length

theorem open_obj {fuel : Nat} {cs : List Value} {x : DataW H × List MemPlace} (hf : DataW.trod enc Tryd.prog w base sp held fuel 62 cs = some x) : ∃ o : OL, ROb w cs x.1 o := by
  obtain ⟨xs, n, _, hx, hl, hlen, hf'⟩ := DataW.trod_struct Tryd.underlying62 hf
  rw [gno] at hl
  obtain ⟨c0, c1, c2, c3, c4, rfl⟩ := glist5 hl
  have key : ∀ i, i < 5 → ∃ y, xs[i]? = some y := fun i hi => ⟨_, List.getElem?_eq_getElem (by rw [hlen]; exact hi)⟩
  have f0 : DataW.trod enc Tryd.prog w base sp held n 25 [c0] = xs[0]? := by simpa [gn3, gnu, gni, gnw] using hf' 0 _ rfl
  obtain ⟨y0, e0⟩ := key 0 (by decide)
  rw [e0] at f0
  obtain ⟨z0, g0, _, wf0⟩ := DataW.trod_int Tryd.underlying25 f0
  have f1 : DataW.trod enc Tryd.prog w base sp held n 3 [c1] = xs[1]? := by simpa [gn3, gnu, gni, gnw] using hf' 1 _ rfl
  obtain ⟨y1, e1⟩ := key 1 (by decide)
  rw [e1] at f1
  obtain ⟨z1, g1, _, wf1⟩ := DataW.trod_int Tryd.underlying3 f1
  have f2 : DataW.trod enc Tryd.prog w base sp held n 3 [c2] = xs[2]? := by simpa [gn3, gnu, gni, gnw] using hf' 2 _ rfl
  obtain ⟨y2, e2⟩ := key 2 (by decide)
  rw [e2] at f2
  obtain ⟨z2, g2, _, wf2⟩ := DataW.trod_int Tryd.underlying3 f2
  have f3 : DataW.trod enc Tryd.prog w base sp held n 24 [c3] = xs[3]? := by simpa [gn3, gnu, gni, gnw] using hf' 3 _ rfl
  obtain ⟨y3, e3⟩ := key 3 (by decide)
  rw [e3] at f3
  obtain ⟨ps, hps, hpi, hpw⟩ := open_nums Tryd.underlying24 Tryd.underlying3 gn3 gb3 f3
  have f4 : DataW.trod enc Tryd.prog w base sp held n 60 [c4] = xs[4]? := by simpa [gn3, gnu, gni, gnw] using hf' 4 _ rfl
  obtain ⟨y4, e4⟩ := key 4 (by decide)
  rw [e4] at f4
  obtain ⟨rs, hrs, hri, hrw⟩ := open_nums Tryd.underlying60 Tryd.underlying25 gnu gbu f4
  have exs : xs = [y0, y1, y2, y3, y4] := by
    match xs, hlen, e0, e1, e2, e3, e4 with
    | [a, b, c, d, e], _, e0, e1, e2, e3, e4 => simp at e0 e1 e2 e3 e4; rw [e0, e1, e2, e3, e4]
  have up3 : ∀ k, k ∈ y3.1.weights Tryd.prog 24 → k ∈ x.1.weights Tryd.prog 62 := fun k hk => by
    rw [hx, exs, DataW.weights]
    simp only [Tryd.underlying62, List.map_cons, List.map_nil, DataW.weightsEach]
    simp [hk]
  have up4 : ∀ k, k ∈ y4.1.weights Tryd.prog 60 → k ∈ x.1.weights Tryd.prog 62 := fun k hk => by
    rw [hx, exs, DataW.weights]
    simp only [Tryd.underlying62, List.map_cons, List.map_nil, DataW.weightsEach]
    simp [hk]
  simp only [List.cons.injEq, and_true] at g0 g1 g2
  subst g0 g1 g2
  have hz0 := ginu wf0
  have ers : (rs.map Int.toNat).map Int.ofNat = rs := Im.map_ofNat_toNat (fun z hz => (ginu (hri z hz)).1)
  refine ⟨⟨⟨z0.toNat, z1, z2, ps, rs.map Int.toNat⟩, c3, c4⟩, ?_, ⟨by show z0.toNat < _; omega, gin wf1, gin wf2, fun n hn => by
    obtain ⟨z, hz, rfl⟩ := List.mem_map.1 hn
    have := ginu (hri z hz)
    omega⟩, hps, by rw [ers]; exact hrs, hpw.up up3, by rw [List.length_map]; exact hrw.up up4⟩
  show _ = [Value.int .u64 ((z0.toNat : Nat) : Int), _, _, _, _]
  rw [show ((z0.toNat : Nat) : Int) = z0 by omega]

/-- Objects. -/
theorem open_objs {fuel : Nat} {v : Value} {x : DataW H × List MemPlace} (hf : DataW.trod enc Tryd.prog w base sp held fuel 22 [v] = some x) :
    ∃ os : List OL, Ord w.heap.size w v os ∧ Wt 22 x.1 os.length ∧ ∀ o, o ∈ os → obR o.o ∧ Wt 22 x.1 o.o.ps.length ∧ Wt 22 x.1 o.o.rs.length := by
  obtain ⟨os, a, cap, h1, h2, h3, h4⟩ := open_rows Tryd.underlying22 gno (by decide) gbo (ROb w) (fun hf' => open_obj hf') hf
  refine ⟨os, ⟨a, cap, h1, fun i o ho => ?_⟩, h3, fun o ho => ?_⟩
  · obtain ⟨cs, d, q, off, ⟨rfl, -, hp, hr, -, -⟩, -, e1, e2, -, e3⟩ := h4 i o ho
    exact ⟨hp, hr, q, off, e1, e2, fun j hj => by rw [e3 j hj, Array.getElem?_toList]⟩
  · obtain ⟨i, hi⟩ := List.getElem?_of_mem ho
    obtain ⟨cs, d, q, off, ⟨-, hob, -, -, w1, w2⟩, hu, -⟩ := h4 i o hi
    exact ⟨hob, w1.up hu, w2.up hu⟩

/-- Lists of lists. -/
theorem open_frs {fuel : Nat} {v : Value} {x : DataW H × List MemPlace} (hf : DataW.trod enc Tryd.prog w base sp held fuel 30 [v] = some x) :
    ∃ fs : List (Value × List Int), Frd w.heap.size w v fs ∧ Wt 30 x.1 fs.length ∧ ∀ y, y ∈ fs → Wt 30 x.1 y.2.length := by
  obtain ⟨fs, a, cap, h1, h2, h3, h4⟩ := open_rows Tryd.underlying30 gni (by decide) gbi (fun cs d (y : Value × List Int) => cs = [y.1] ∧ Lrd w.heap.size w y.1 .i64 y.2 ∧ Wt 24 d y.2.length) (fun {fuel cs x} hf' => by
    have hcs : ∃ c, cs = [c] := by
      rcases DataW.trod_slice Tryd.underlying24 hf' with ⟨hcs, _⟩ | ⟨a, l, c, _, _, _, _, hcs, _⟩
      · exact ⟨_, hcs⟩
      · exact ⟨_, hcs⟩
    obtain ⟨c, rfl⟩ := hcs
    obtain ⟨l, hl, -, hw⟩ := open_nums Tryd.underlying24 Tryd.underlying3 gn3 gb3 hf'
    exact ⟨(c, l), rfl, hl, hw⟩) hf
  refine ⟨fs, ⟨a, cap, h1, fun i y hy => ?_⟩, h3, fun y hy => ?_⟩
  · obtain ⟨cs, d, q, off, ⟨rfl, hl, -⟩, -, e1, e2, -, e3⟩ := h4 i y hy
    have := e3 0 (by decide)
    rw [Nat.mul_one, Nat.add_zero] at this
    exact ⟨hl, q, off, e1, e2, this⟩
  · obtain ⟨i, hi⟩ := List.getElem?_of_mem hy
    obtain ⟨cs, d, q, off, ⟨-, -, hw⟩, hu, -⟩ := h4 i y hi
    exact hw.up hu

/-- Lists of lists of lists. -/
theorem open_ths {fuel : Nat} {v : Value} {x : DataW H × List MemPlace} (hf : DataW.trod enc Tryd.prog w base sp held fuel 23 [v] = some x) :
    ∃ ts : List (Value × List (Value × List Int)), Trd w.heap.size w v ts ∧ Wt 23 x.1 ts.length ∧ ∀ t, t ∈ ts → Wt 23 x.1 t.2.length ∧ ∀ y, y ∈ t.2 → Wt 23 x.1 y.2.length := by
  obtain ⟨ts, a, cap, h1, h2, h3, h4⟩ := open_rows Tryd.underlying23 gnf (by decide) gbf (fun cs d (y : Value × List (Value × List Int)) => cs = [y.1] ∧ Frd w.heap.size w y.1 y.2 ∧ Wt 30 d y.2.length ∧ ∀ z, z ∈ y.2 → Wt 30 d z.2.length) (fun {fuel cs x} hf' => by
    have hcs : ∃ c, cs = [c] := by
      rcases DataW.trod_slice Tryd.underlying30 hf' with ⟨hcs, _⟩ | ⟨a, l, c, _, _, _, _, hcs, _⟩
      · exact ⟨_, hcs⟩
      · exact ⟨_, hcs⟩
    obtain ⟨c, rfl⟩ := hcs
    obtain ⟨l, hl, hw, hw2⟩ := open_frs hf'
    exact ⟨(c, l), rfl, hl, hw, hw2⟩) hf
  refine ⟨ts, ⟨a, cap, h1, fun i y hy => ?_⟩, h3, fun y hy => ?_⟩
  · obtain ⟨cs, d, q, off, ⟨rfl, hl, -⟩, -, e1, e2, -, e3⟩ := h4 i y hy
    have := e3 0 (by decide)
    rw [Nat.mul_one, Nat.add_zero] at this
    exact ⟨hl, q, off, e1, e2, this⟩
  · obtain ⟨i, hi⟩ := List.getElem?_of_mem hy
    obtain ⟨cs, d, q, off, ⟨-, -, hw, hw2⟩, hu, -⟩ := h4 i y hi
    exact ⟨hw.up hu, fun z hz => (hw2 z hz).up hu⟩

theorem garray6 {α : Type} {cs : Array α} (h : cs.size = 6) : ∃ c0 c1 c2 c3 c4 c5, cs = #[c0, c1, c2, c3, c4, c5] := by
  obtain ⟨l⟩ := cs
  match l, h with
  | [a, b, c, d, e, f], _ => exact ⟨a, b, c, d, e, f, rfl⟩

/-- A graph that comes in. -/
theorem open_graph {r : Reach} {b0 : Nat} {v : Value} {d : DataW H} {p : List MemPlace}
    (hv' : Value.okWide Tryd.prog w r b0 27 v) (h : DataW.Trod enc Tryd.prog w base sp held 27 v d p) : ∃ (vo vs vh vr vq : Value) (os : List OL) (ts : List (Value × List (Value × List Int))) (g : Im.Gr), v = .agg (gcs vo vs vh vr vq g.next) ∧
      Ord w.heap.size w vo os ∧ Trd w.heap.size w vs ts ∧ Lrd w.heap.size w vh .i64 g.hs ∧ Lrd w.heap.size w vr .i64 g.rg ∧ Lrd w.heap.size w vq .i64 g.qu ∧ g.obs = os.map (·.o) ∧ g.slots = ts.map (fun t => t.2.map (·.2)) ∧ g.next < 18446744073709551616 ∧
      (∀ o, o ∈ os → obR o.o ∧ Wt 27 d o.o.ps.length ∧ Wt 27 d o.o.rs.length) ∧ Wt 27 d os.length ∧ Wt 27 d ts.length ∧ (∀ t, t ∈ ts → Wt 27 d t.2.length ∧ ∀ y, y ∈ t.2 → Wt 27 d y.2.length) ∧ Wt 27 d g.hs.length ∧ Wt 27 d g.rg.length ∧ Wt 27 d g.qu.length := by
  obtain ⟨cs, rfl, hsz⟩ := okWide_struct Tryd.underlying27 hv'
  obtain ⟨c0, c1, c2, c3, c4, c5, rfl⟩ := garray6 (hsz.trans gng)
  obtain ⟨fuel, hf⟩ := h
  obtain ⟨xs, n, _, hx, _, hlen, hf'⟩ := DataW.trod_struct Tryd.underlying27 hf
  have key : ∀ i, i < 6 → ∃ y, xs[i]? = some y := fun i hi => ⟨_, List.getElem?_eq_getElem (by rw [hlen]; exact hi)⟩
  have f0 : DataW.trod enc Tryd.prog w base sp held n 22 [c0] = xs[0]? := by simpa [Value.cells, gn3, gnu, gni, gnw, gnos, gnt] using hf' 0 _ rfl
  obtain ⟨y0, e0⟩ := key 0 (by decide)
  rw [e0] at f0
  obtain ⟨os, ho, hw0, hwo⟩ := open_objs f0
  have f1 : DataW.trod enc Tryd.prog w base sp held n 23 [c1] = xs[1]? := by simpa [Value.cells, gn3, gnu, gni, gnw, gnos, gnt] using hf' 1 _ rfl
  obtain ⟨y1, e1⟩ := key 1 (by decide)
  rw [e1] at f1
  obtain ⟨ts, ht, hw1, hwt⟩ := open_ths f1
  have f2 : DataW.trod enc Tryd.prog w base sp held n 24 [c2] = xs[2]? := by simpa [Value.cells, gn3, gnu, gni, gnw, gnos, gnt] using hf' 2 _ rfl
  obtain ⟨y2, e2⟩ := key 2 (by decide)
  rw [e2] at f2
  obtain ⟨l2, h2, -, hw2⟩ := open_nums Tryd.underlying24 Tryd.underlying3 gn3 gb3 f2
  have f3 : DataW.trod enc Tryd.prog w base sp held n 24 [c3] = xs[3]? := by simpa [Value.cells, gn3, gnu, gni, gnw, gnos, gnt] using hf' 3 _ rfl
  obtain ⟨y3, e3⟩ := key 3 (by decide)
  rw [e3] at f3
  obtain ⟨l3, h3, -, hw3⟩ := open_nums Tryd.underlying24 Tryd.underlying3 gn3 gb3 f3
  have f4 : DataW.trod enc Tryd.prog w base sp held n 24 [c4] = xs[4]? := by simpa [Value.cells, gn3, gnu, gni, gnw, gnos, gnt] using hf' 4 _ rfl
  obtain ⟨y4, e4⟩ := key 4 (by decide)
  rw [e4] at f4
  obtain ⟨l4, h4, -, hw4⟩ := open_nums Tryd.underlying24 Tryd.underlying3 gn3 gb3 f4
  have f5 : DataW.trod enc Tryd.prog w base sp held n 25 [c5] = xs[5]? := by simpa [Value.cells, gn3, gnu, gni, gnw, gnos, gnt] using hf' 5 _ rfl
  obtain ⟨y5, e5⟩ := key 5 (by decide)
  rw [e5] at f5
  obtain ⟨z5, g5, _, wf5⟩ := DataW.trod_int Tryd.underlying25 f5
  have exs : xs = [y0, y1, y2, y3, y4, y5] := by
    match xs, hlen, e0, e1, e2, e3, e4, e5 with
    | [a, b, c, d, e, f], _, e0, e1, e2, e3, e4, e5 => simp at e0 e1 e2 e3 e4 e5; rw [e0, e1, e2, e3, e4, e5]
  simp only [Prod.mk.injEq] at hx
  have up0 : ∀ k, k ∈ y0.1.weights Tryd.prog 22 → k ∈ d.weights Tryd.prog 27 := fun k hk => by
    rw [hx.1, exs, DataW.weights]
    simp only [Tryd.underlying27, List.map_cons, List.map_nil, DataW.weightsEach]
    simp [hk]
  have up1 : ∀ k, k ∈ y1.1.weights Tryd.prog 23 → k ∈ d.weights Tryd.prog 27 := fun k hk => by
    rw [hx.1, exs, DataW.weights]
    simp only [Tryd.underlying27, List.map_cons, List.map_nil, DataW.weightsEach]
    simp [hk]
  have up2 : ∀ k, k ∈ y2.1.weights Tryd.prog 24 ∨ k ∈ y3.1.weights Tryd.prog 24 ∨ k ∈ y4.1.weights Tryd.prog 24 → k ∈ d.weights Tryd.prog 27 := fun k hk => by
    rw [hx.1, exs, DataW.weights]
    simp only [Tryd.underlying27, List.map_cons, List.map_nil, DataW.weightsEach]
    rcases hk with hk | hk | hk <;> simp [hk]
  have hz5 := ginu wf5
  simp only [List.cons.injEq, and_true] at g5
  subst g5
  refine ⟨c0, c1, c2, c3, c4, os, ts, ⟨z5.toNat, os.map (·.o), ts.map (fun t => t.2.map (·.2)), l2, l3, l4⟩, ?_, ho, ht, h2, h3, h4, rfl, rfl, by show z5.toNat < _; omega, fun o ho' => ⟨(hwo o ho').1, (hwo o ho').2.1.up up0, (hwo o ho').2.2.up up0⟩, hw0.up up0, hw1.up up1, fun t ht' => ⟨(hwt t ht').1.up up1, fun y hy => ((hwt t ht').2 y hy).up up1⟩, hw2.up (fun k hk => up2 k (.inl hk)), hw3.up (fun k hk => up2 k (.inr (.inl hk))), hw4.up (fun k hk => up2 k (.inr (.inr hk)))⟩
  show _ = Value.agg (gcs c0 c1 c2 c3 c4 ((z5.toNat : Nat) : Int))
  rw [show ((z5.toNat : Nat) : Int) = z5 by omega]

end Go.Proofs.YtckgcpoheodbcaaDoor

/-
  Growth by site: a graph that comes in, and its bulk.
-/
set_option linter.unusedVariables false
set_option maxRecDepth 20000
namespace Go.Proofs.YtckgcpoheodbcaaDoor
open Go.ChangeShapes Go.WideShapes Go.ChangeAt Go.WideMaps Go.WideElems Go.RowKit Go.Shelf

variable {H : Type} {enc : TypeId × Value → H} {w : World} {base : Nat} {sp : Nat → Bool} {held : Bool}

theorem bulk_one (d : DataW H) : 1 ≤ Rows.uptoBulk d := by
  cases d with
  | lit l => cases l <;> simp [Rows.uptoBulk]
  | _ => simp [Rows.uptoBulk]

theorem bulk_sum : ∀ l : List (DataW H), Rows.uptoBulkAll l = (l.map Rows.uptoBulk).sum
  | [] => rfl
  | d :: l => by rw [Rows.uptoBulkAll, bulk_sum l, List.map_cons, List.sum_cons]

theorem sum_pt {α β : Type} (f : α → Nat) (h : β → Nat) : ∀ (l : List α) (k : List β), l.length = k.length → (∀ (i : Nat) a b, l[i]? = some a → k[i]? = some b → f a ≤ h b) → (l.map f).sum ≤ (k.map h).sum
  | [], [], _, _ => Nat.le_refl _
  | a :: l, b :: k, hl, hp => by
    have h0 := hp 0 a b rfl rfl
    have h1 := sum_pt f h l k (by simpa using hl) (fun i a' b' ha hb => hp (i + 1) a' b' (by simpa using ha) (by simpa using hb))
    simp only [List.map_cons, List.sum_cons]
    omega

/-- Rows of things that come in, and how many they are together. -/
theorem open_rowsB {β : Type} {t e : TypeId} {sz : Nat} (ht : Tryd.prog.underlying t = some (.slice e)) (hc : Tryd.prog.cellsOf e = sz) (hsz : 0 < sz) (R : List Value → β → Prop) (μ : β → Nat) (hR : ∀ {fuel : Nat} {cs : List Value} {x : DataW H × List MemPlace}, DataW.trod enc Tryd.prog w base sp held fuel e cs = some x → ∃ o : β, R cs o ∧ μ o ≤ Rows.uptoBulk x.1)
    {fuel : Nat} {v : Value} {x : DataW H × List MemPlace} (hf : DataW.trod enc Tryd.prog w base sp held fuel t [v] = some x) :
    ∃ (ds : List β) (a : Option Addr) (cap : Nat), v = .slice a ds.length cap ∧ ds.length ≤ cap ∧ (ds.map μ).sum + 1 ≤ Rows.uptoBulk x.1 ∧ ∀ (i : Nat) o, ds[i]? = some o → ∃ cs q off, R cs o ∧ a = some ⟨q, off, none⟩ ∧ q < w.heap.size ∧ cs.length = sz ∧ ∀ j, j < sz → w.cell? ⟨q, off + i * sz + j, none⟩ = cs[j]? := by
  rcases DataW.trod_slice ht hf with ⟨hcs, _⟩ | ⟨a, l, c, elems, rest, n, _, hcs, hd, _, hl, hm, hel, hget, _⟩
  · simp at hcs
    subst hcs
    exact ⟨[], none, 0, rfl, Nat.le_refl _, bulk_one _, fun i o ho => by simp at ho⟩
  · simp at hcs
    subst hcs
    have hsp : 0 < l → a.spot = none := fun h0l => by
      have h1 := hget 0 h0l
      rw [hc, List.getElem?_eq_getElem (by omega)] at h1
      obtain ⟨cs, hcc, -⟩ := Option.bind_eq_some_iff.1 h1
      have hs := World.cells?_some hcc
      have hcl : cs.length = sz := hs.2.1
      have h0 := hs.2.2 0 (by omega)
      rw [List.getElem?_eq_getElem (by omega)] at h0
      simpa [Addr.add] using World.cell?_spot h0
    obtain ⟨ds, hdl, hds⟩ := list_choice (fun i o => (∃ cs q off, R cs o ∧ some a = some ⟨q, off, none⟩ ∧ q < w.heap.size ∧ cs.length = sz ∧ ∀ j, j < sz → w.cell? ⟨q, off + i * sz + j, none⟩ = cs[j]?) ∧ ∀ y, elems[i]? = some y → μ o ≤ Rows.uptoBulk y.1) l (fun i hi => by
      have h1 := hget i hi
      rw [hc, List.getElem?_eq_getElem (by omega)] at h1
      obtain ⟨cs, hcc, htt⟩ := Option.bind_eq_some_iff.1 h1
      obtain ⟨o, ho, hmu⟩ := hR htt
      have hs := World.cells?_some hcc
      obtain ⟨g, off, spot⟩ := a
      have hcl : cs.length = sz := hs.2.1
      have h0 := hs.2.2 0 (by omega)
      have hspot : spot = none := hsp (by omega)
      subst hspot
      simp only [gplus] at h0 hs
      rw [List.getElem?_eq_getElem (by omega)] at h0
      exact ⟨o, ⟨cs, g, off, ho, rfl, World.block_lt_of_cell? _ _ h0, hcl, fun j hj => hs.2.2 j (by omega)⟩, fun y hy => by
        rw [List.getElem?_eq_getElem (by omega)] at hy
        cases hy
        exact hmu⟩)
    refine ⟨ds, some a, c, by rw [hdl], by rw [hdl]; exact hl, ?_, fun i o ho => (hds i o ho).1⟩
    have h9 := sum_pt μ (fun y : DataW H × List MemPlace => Rows.uptoBulk y.1) ds elems (by omega) (fun i o y ho hy => (hds i o ho).2 y hy)
    rw [hd]
    simp only [Rows.uptoBulk, bulk_sum, List.map_map]
    have h8 : (elems.map (Rows.uptoBulk ∘ fun y : DataW H × List MemPlace => y.1)).sum = (elems.map (fun y : DataW H × List MemPlace => Rows.uptoBulk y.1)).sum := rfl
    omega

theorem sum_ones {α : Type} : ∀ l : List α, (l.map (fun _ => 1)).sum = l.length
  | [] => rfl
  | a :: l => by rw [List.map_cons, List.sum_cons, sum_ones l, List.length_cons]; omega

/-- A list of numbers. -/
theorem open_numsB {t e : TypeId} {k : IntKind} (ht : Tryd.prog.underlying t = some (.slice e)) (he : Tryd.prog.underlying e = some (.int k)) (hc : Tryd.prog.cellsOf e = 1) {fuel : Nat} {v : Value} {x : DataW H × List MemPlace} (hf : DataW.trod enc Tryd.prog w base sp held fuel t [v] = some x) :
    ∃ l : List Int, Lrd w.heap.size w v k l ∧ (∀ z, z ∈ l → (Lit.int k z).wf = true) ∧ l.length + 1 ≤ Rows.uptoBulk x.1 := by
  obtain ⟨l, a, cap, h1, h2, h3, h4⟩ := open_rowsB ht hc (by decide) (fun cs (z : Int) => cs = [.int k z] ∧ (Lit.int k z).wf = true) (fun _ => 1) (fun {fuel cs x} hf' => by
    obtain ⟨z, g0, _, wf⟩ := DataW.trod_int he hf'
    exact ⟨z, ⟨g0, wf⟩, bulk_one _⟩) hf
  rw [sum_ones] at h3
  refine ⟨l, ⟨a, cap, h1, h2, fun f z hz => ?_⟩, fun z hz => ?_, h3⟩
  · obtain ⟨cs, q, off, ⟨rfl, -⟩, e1, e2, -, e3⟩ := h4 f z hz
    have := e3 0 (by decide)
    rw [Nat.mul_one, Nat.add_zero] at this
    exact ⟨q, off, e1, e2, this⟩
  · obtain ⟨i, hi⟩ := List.getElem?_of_mem hz
    obtain ⟨cs, q, off, ⟨-, hw⟩, -⟩ := h4 i z hi
    exact hw

/-- An object. -/
def ROc (w : World) (cs : List Value) (o : OL) : Prop :=
  cs = o.cells.toList ∧ obR o.o ∧ Lrd w.heap.size w o.vp .i64 o.o.ps ∧ Lrd w.heap.size w o.vr .u64 (o.o.rs.map Int.ofNat)

theorem open_objB {fuel : Nat} {cs : List Value} {x : DataW H × List MemPlace} (hf : DataW.trod enc Tryd.prog w base sp held fuel 62 cs = some x) : ∃ o : OL, ROc w cs o ∧ 1 + (o.o.ps.length + o.o.rs.length) ≤ Rows.uptoBulk x.1 := by
  obtain ⟨xs, n, _, hx, hl, hlen, hf'⟩ := DataW.trod_struct Tryd.underlying62 hf
  rw [gno] at hl
  obtain ⟨c0, c1, c2, c3, c4, rfl⟩ := glist5 hl
  have key : ∀ i, i < 5 → ∃ y, xs[i]? = some y := fun i hi => ⟨_, List.getElem?_eq_getElem (by rw [hlen]; exact hi)⟩
  have f0 : DataW.trod enc Tryd.prog w base sp held n 25 [c0] = xs[0]? := by simpa [gn3, gnu, gni, gnw] using hf' 0 _ rfl
  obtain ⟨y0, e0⟩ := key 0 (by decide)
  rw [e0] at f0
  obtain ⟨z0, g0, _, wf0⟩ := DataW.trod_int Tryd.underlying25 f0
  have f1 : DataW.trod enc Tryd.prog w base sp held n 3 [c1] = xs[1]? := by simpa [gn3, gnu, gni, gnw] using hf' 1 _ rfl
  obtain ⟨y1, e1⟩ := key 1 (by decide)
  rw [e1] at f1
  obtain ⟨z1, g1, _, wf1⟩ := DataW.trod_int Tryd.underlying3 f1
  have f2 : DataW.trod enc Tryd.prog w base sp held n 3 [c2] = xs[2]? := by simpa [gn3, gnu, gni, gnw] using hf' 2 _ rfl
  obtain ⟨y2, e2⟩ := key 2 (by decide)
  rw [e2] at f2
  obtain ⟨z2, g2, _, wf2⟩ := DataW.trod_int Tryd.underlying3 f2
  have f3 : DataW.trod enc Tryd.prog w base sp held n 24 [c3] = xs[3]? := by simpa [gn3, gnu, gni, gnw] using hf' 3 _ rfl
  obtain ⟨y3, e3⟩ := key 3 (by decide)
  rw [e3] at f3
  obtain ⟨ps, hps, hpi, hpw⟩ := open_numsB Tryd.underlying24 Tryd.underlying3 gn3 f3
  have f4 : DataW.trod enc Tryd.prog w base sp held n 60 [c4] = xs[4]? := by simpa [gn3, gnu, gni, gnw] using hf' 4 _ rfl
  obtain ⟨y4, e4⟩ := key 4 (by decide)
  rw [e4] at f4
  obtain ⟨rs, hrs, hri, hrw⟩ := open_numsB Tryd.underlying60 Tryd.underlying25 gnu f4
  have exs : xs = [y0, y1, y2, y3, y4] := by
    match xs, hlen, e0, e1, e2, e3, e4 with
    | [a, b, c, d, e], _, e0, e1, e2, e3, e4 => simp at e0 e1 e2 e3 e4; rw [e0, e1, e2, e3, e4]
  have hbk : 1 + (ps.length + rs.length) ≤ Rows.uptoBulk x.1 := by
    rw [hx, exs]
    simp only [Rows.uptoBulk, bulk_sum, List.map_cons, List.map_nil, List.sum_cons, List.sum_nil]
    omega
  simp only [List.cons.injEq, and_true] at g0 g1 g2
  subst g0 g1 g2
  have hz0 := ginu wf0
  have ers : (rs.map Int.toNat).map Int.ofNat = rs := Im.map_ofNat_toNat (fun z hz => (ginu (hri z hz)).1)
  refine ⟨⟨⟨z0.toNat, z1, z2, ps, rs.map Int.toNat⟩, c3, c4⟩, ⟨?_, ⟨by show z0.toNat < _; omega, gin wf1, gin wf2, fun n hn => by
    obtain ⟨z, hz, rfl⟩ := List.mem_map.1 hn
    have := ginu (hri z hz)
    omega⟩, hps, by rw [ers]; exact hrs⟩, by simp only [List.length_map]; exact hbk⟩
  show _ = [Value.int .u64 ((z0.toNat : Nat) : Int), _, _, _, _]
  rw [show ((z0.toNat : Nat) : Int) = z0 by omega]

/-- Objects. -/
theorem open_objsB {fuel : Nat} {v : Value} {x : DataW H × List MemPlace} (hf : DataW.trod enc Tryd.prog w base sp held fuel 22 [v] = some x) :
    ∃ os : List OL, Ord w.heap.size w v os ∧ (∀ o, o ∈ os → obR o.o) ∧ os.length + osum os + 1 ≤ Rows.uptoBulk x.1 := by
  obtain ⟨os, a, cap, h1, h2, h3, h4⟩ := open_rowsB Tryd.underlying22 gno (by decide) (ROc w) (fun o => 1 + (o.o.ps.length + o.o.rs.length)) (fun hf' => open_objB hf') hf
  have hs : ∀ l : List OL, (l.map (fun o => 1 + (o.o.ps.length + o.o.rs.length))).sum = l.length + osum l := fun l => by
    induction l with
    | nil => rfl
    | cons y r ih =>
      simp only [osum, List.map_cons, List.sum_cons, List.length_cons] at ih ⊢
      omega
  rw [hs] at h3
  refine ⟨os, ⟨a, cap, h1, fun i o ho => ?_⟩, fun o ho => ?_, h3⟩
  · obtain ⟨cs, q, off, ⟨rfl, -, hp, hr⟩, e1, e2, -, e3⟩ := h4 i o ho
    exact ⟨hp, hr, q, off, e1, e2, fun j hj => by rw [e3 j hj, Array.getElem?_toList]⟩
  · obtain ⟨i, hi⟩ := List.getElem?_of_mem ho
    obtain ⟨cs, q, off, ⟨-, hob, -, -⟩, -⟩ := h4 i o hi
    exact hob

/-- Lists of lists. -/
theorem open_frsB {fuel : Nat} {v : Value} {x : DataW H × List MemPlace} (hf : DataW.trod enc Tryd.prog w base sp held fuel 30 [v] = some x) :
    ∃ fs : List (Value × List Int), Frd w.heap.size w v fs ∧ 1 + (fs.length + fsum (fs.map (·.2))) ≤ Rows.uptoBulk x.1 := by
  obtain ⟨fs, a, cap, h1, h2, h3, h4⟩ := open_rowsB Tryd.underlying30 gni (by decide) (fun cs (y : Value × List Int) => cs = [y.1] ∧ Lrd w.heap.size w y.1 .i64 y.2) (fun y => 1 + y.2.length) (fun {fuel cs x} hf' => by
    have hcs : ∃ c, cs = [c] := by
      rcases DataW.trod_slice Tryd.underlying24 hf' with ⟨hcs, _⟩ | ⟨a, l, c, _, _, _, _, hcs, _⟩
      · exact ⟨_, hcs⟩
      · exact ⟨_, hcs⟩
    obtain ⟨c, rfl⟩ := hcs
    obtain ⟨l, hl, -, hw⟩ := open_numsB Tryd.underlying24 Tryd.underlying3 gn3 hf'
    exact ⟨(c, l), ⟨rfl, hl⟩, by show 1 + l.length ≤ _; omega⟩) hf
  have hs : ∀ l : List (Value × List Int), (l.map (fun y => 1 + y.2.length)).sum = l.length + fsum (l.map (·.2)) := fun l => by
    induction l with
    | nil => rfl
    | cons y r ih =>
      simp only [fsum, List.map_cons, List.sum_cons, List.length_cons] at ih ⊢
      omega
  rw [hs] at h3
  refine ⟨fs, ⟨a, cap, h1, fun i y hy => ?_⟩, by omega⟩
  obtain ⟨cs, q, off, ⟨rfl, hl⟩, e1, e2, -, e3⟩ := h4 i y hy
  have := e3 0 (by decide)
  rw [Nat.mul_one, Nat.add_zero] at this
  exact ⟨hl, q, off, e1, e2, this⟩

/-- Lists of lists of lists. -/
theorem open_thsB {fuel : Nat} {v : Value} {x : DataW H × List MemPlace} (hf : DataW.trod enc Tryd.prog w base sp held fuel 23 [v] = some x) :
    ∃ ts : List (Value × List (Value × List Int)), Trd w.heap.size w v ts ∧ ts.length + tsum ts + 1 ≤ Rows.uptoBulk x.1 := by
  obtain ⟨ts, a, cap, h1, h2, h3, h4⟩ := open_rowsB Tryd.underlying23 gnf (by decide) (fun cs (y : Value × List (Value × List Int)) => cs = [y.1] ∧ Frd w.heap.size w y.1 y.2) (fun y => 1 + (y.2.length + fsum (y.2.map (·.2)))) (fun {fuel cs x} hf' => by
    have hcs : ∃ c, cs = [c] := by
      rcases DataW.trod_slice Tryd.underlying30 hf' with ⟨hcs, _⟩ | ⟨a, l, c, _, _, _, _, hcs, _⟩
      · exact ⟨_, hcs⟩
      · exact ⟨_, hcs⟩
    obtain ⟨c, rfl⟩ := hcs
    obtain ⟨l, hl, hw⟩ := open_frsB hf'
    exact ⟨(c, l), ⟨rfl, hl⟩, hw⟩) hf
  have hs : ∀ l : List (Value × List (Value × List Int)), (l.map (fun y => 1 + (y.2.length + fsum (y.2.map (·.2))))).sum = l.length + tsum l := fun l => by
    induction l with
    | nil => rfl
    | cons y r ih =>
      simp only [tsum, List.map_cons, List.sum_cons, List.length_cons] at ih ⊢
      omega
  rw [hs] at h3
  refine ⟨ts, ⟨a, cap, h1, fun i y hy => ?_⟩, h3⟩
  obtain ⟨cs, q, off, ⟨rfl, hl⟩, e1, e2, -, e3⟩ := h4 i y hy
  have := e3 0 (by decide)
  rw [Nat.mul_one, Nat.add_zero] at this
  exact ⟨hl, q, off, e1, e2, this⟩

/-- A graph that comes in. -/
theorem open_graphB {r : Reach} {b0 : Nat} {v : Value} {d : DataW H} {p : List MemPlace}
    (hv' : Value.okWide Tryd.prog w r b0 27 v) (h : DataW.Trod enc Tryd.prog w base sp held 27 v d p) (hB : Rows.uptoBulk d ≤ 1048576) : ∃ (vo vs vh vr vq : Value) (os : List OL) (ts : List (Value × List (Value × List Int))) (g : Im.Gr), v = .agg (gcs vo vs vh vr vq g.next) ∧
      Grd w.heap.size w vo vs vh vr vq os ts g ∧ gsz os ts g ≤ 1048576 ∧ (∀ x, x ∈ os → obR x.o) := by
  obtain ⟨cs, rfl, hsz⟩ := okWide_struct Tryd.underlying27 hv'
  obtain ⟨c0, c1, c2, c3, c4, c5, rfl⟩ := garray6 (hsz.trans gng)
  obtain ⟨fuel, hf⟩ := h
  obtain ⟨xs, n, _, hx, _, hlen, hf'⟩ := DataW.trod_struct Tryd.underlying27 hf
  have key : ∀ i, i < 6 → ∃ y, xs[i]? = some y := fun i hi => ⟨_, List.getElem?_eq_getElem (by rw [hlen]; exact hi)⟩
  have f0 : DataW.trod enc Tryd.prog w base sp held n 22 [c0] = xs[0]? := by simpa [Value.cells, gn3, gnu, gni, gnw, gnos, gnt] using hf' 0 _ rfl
  obtain ⟨y0, e0⟩ := key 0 (by decide)
  rw [e0] at f0
  obtain ⟨os, ho, hro, hw0⟩ := open_objsB f0
  have f1 : DataW.trod enc Tryd.prog w base sp held n 23 [c1] = xs[1]? := by simpa [Value.cells, gn3, gnu, gni, gnw, gnos, gnt] using hf' 1 _ rfl
  obtain ⟨y1, e1⟩ := key 1 (by decide)
  rw [e1] at f1
  obtain ⟨ts, ht, hw1⟩ := open_thsB f1
  have f2 : DataW.trod enc Tryd.prog w base sp held n 24 [c2] = xs[2]? := by simpa [Value.cells, gn3, gnu, gni, gnw, gnos, gnt] using hf' 2 _ rfl
  obtain ⟨y2, e2⟩ := key 2 (by decide)
  rw [e2] at f2
  obtain ⟨l2, h2, -, hw2⟩ := open_numsB Tryd.underlying24 Tryd.underlying3 gn3 f2
  have f3 : DataW.trod enc Tryd.prog w base sp held n 24 [c3] = xs[3]? := by simpa [Value.cells, gn3, gnu, gni, gnw, gnos, gnt] using hf' 3 _ rfl
  obtain ⟨y3, e3⟩ := key 3 (by decide)
  rw [e3] at f3
  obtain ⟨l3, h3, -, hw3⟩ := open_numsB Tryd.underlying24 Tryd.underlying3 gn3 f3
  have f4 : DataW.trod enc Tryd.prog w base sp held n 24 [c4] = xs[4]? := by simpa [Value.cells, gn3, gnu, gni, gnw, gnos, gnt] using hf' 4 _ rfl
  obtain ⟨y4, e4⟩ := key 4 (by decide)
  rw [e4] at f4
  obtain ⟨l4, h4, -, hw4⟩ := open_numsB Tryd.underlying24 Tryd.underlying3 gn3 f4
  have f5 : DataW.trod enc Tryd.prog w base sp held n 25 [c5] = xs[5]? := by simpa [Value.cells, gn3, gnu, gni, gnw, gnos, gnt] using hf' 5 _ rfl
  obtain ⟨y5, e5⟩ := key 5 (by decide)
  rw [e5] at f5
  obtain ⟨z5, g5, _, wf5⟩ := DataW.trod_int Tryd.underlying25 f5
  have exs : xs = [y0, y1, y2, y3, y4, y5] := by
    match xs, hlen, e0, e1, e2, e3, e4, e5 with
    | [a, b, c, d, e, f], _, e0, e1, e2, e3, e4, e5 => simp at e0 e1 e2 e3 e4 e5; rw [e0, e1, e2, e3, e4, e5]
  simp only [Prod.mk.injEq] at hx
  have hz : gsz os ts ⟨z5.toNat, os.map (·.o), ts.map (fun t => t.2.map (·.2)), l2, l3, l4⟩ ≤ 1048576 := by
    rw [hx.1, exs] at hB
    simp only [Rows.uptoBulk, bulk_sum, List.map_cons, List.map_nil, List.sum_cons, List.sum_nil] at hB
    unfold gsz szs
    simp only
    omega
  have hz5 := ginu wf5
  simp only [List.cons.injEq, and_true] at g5
  subst g5
  have hol : ∀ x, x ∈ os → x.o.ps.length + x.o.rs.length ≤ osum os := sum_mem (fun x : OL => x.o.ps.length + x.o.rs.length) os
  have hos : osum os ≤ 1048576 := by unfold gsz at hz; omega
  refine ⟨c0, c1, c2, c3, c4, os, ts, ⟨z5.toNat, os.map (·.o), ts.map (fun t => t.2.map (·.2)), l2, l3, l4⟩, ?_, ⟨ho, ht, h2, h3, h4, rfl, rfl, by show z5.toNat < _; omega, fun o ho' => ?_⟩, hz, hro⟩
  · show _ = Value.agg (gcs c0 c1 c2 c3 c4 ((z5.toNat : Nat) : Int))
    rw [show ((z5.toNat : Nat) : Int) = z5 by omega]
  · obtain ⟨x, hx', rfl⟩ := List.mem_map.1 ho'
    have h8 := hol x hx'
    have h9 := hro x hx'
    exact ⟨h9.1, h9.2.1, h9.2.2.1, by omega, by omega⟩

end Go.Proofs.YtckgcpoheodbcaaDoor

