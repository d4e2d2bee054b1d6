/-
  Growth by site: a graph that was lent is read. (mkLGE.py prints this text.)
-/
import Derived.Test.YtckgcpoheodbcaaDoorPTs
import Derived.Test.YtckgcpoheodbcaaDoorPRi
set_option linter.unusedVariables false
set_option maxRecDepth 20000
namespace Go.Proofs.YtckgcpoheodbcaaDoor
open Go.RowKit Go.Shelf

theorem sum_mem {α : Type} (f : α → Nat) : ∀ (l : List α) x, x ∈ l → f x ≤ (l.map f).sum
  | y :: l, x, h => by
    rw [List.map_cons, List.sum_cons]
    rcases List.mem_cons.1 h with rfl | h
    · omega
    · have := sum_mem f l x h
      omega

theorem Got.lrd {w : World} {N : Nat → Nat} {F : List Nat} {lo b : Nat} {k : IntKind} {v : Value} {xs : List Int} (h : Got w N F lo b k v xs) : Lrd w.heap.size w v k xs :=
  ⟨some ⟨b, 0, none⟩, _, h.is, Nat.le_add_right _ _, fun f z hz => ⟨b, 0, rfl, h.lt, by rw [Nat.zero_add]; exact h.c f z hz⟩⟩

theorem PL.frd {w : World} {N : Nat → Nat} {F : List Nat} {lo : Nat} {v : Value} {fs : List (Value × List Int)} (h : PL lo w N F v fs) : Frd w.heap.size w v fs := by
  obtain ⟨b, h⟩ := h
  refine ⟨some ⟨b, 0, none⟩, _, h.is, fun i x hx => ?_⟩
  obtain ⟨h1, b', h2⟩ := h.c i x hx
  exact ⟨h2.lrd, b, 0, rfl, h.lt, by rw [Nat.zero_add]; exact h1⟩

theorem PT.trd {w : World} {N : Nat → Nat} {F : List Nat} {lo : Nat} {v : Value} {ts : List (Value × List (Value × List Int))} (h : PT lo w N F v ts) : Trd w.heap.size w v ts := by
  obtain ⟨b, h⟩ := h
  refine ⟨some ⟨b, 0, none⟩, _, h.is, fun i x hx => ?_⟩
  obtain ⟨h1, h2⟩ := h.c i x hx
  exact ⟨h2.frd, b, 0, rfl, h.lt, by rw [Nat.zero_add]; exact h1⟩

theorem GotO.ord {w : World} {N : Nat → Nat} {F : List Nat} {lo b : Nat} {v : Value} {os : List OL} (h : GotO w N F lo b v os) : Ord w.heap.size w v os := by
  refine ⟨some ⟨b, 0, none⟩, _, h.is, fun i x hx => ?_⟩
  obtain ⟨h1, ⟨b1, h2⟩, b2, h3⟩ := h.c i x hx
  exact ⟨h2.lrd, h3.lrd, b, 0, rfl, h.lt, fun j hj => by rw [Nat.zero_add]; exact h1 j hj⟩

section
variable {os : List OL} {ts : List (Value × List (Value × List Int))} {g : Im.Gr}

theorem sml_of (h : gsz os ts g ≤ 1048576) : Sml os ts g := by
  have ho : ∀ x, x ∈ os → x.o.ps.length + x.o.rs.length ≤ osum os := sum_mem (fun x : OL => x.o.ps.length + x.o.rs.length) os
  have ht : ∀ x, x ∈ ts → x.2.length + fsum (x.2.map (·.2)) ≤ tsum ts := sum_mem (fun x : Value × List (Value × List Int) => x.2.length + fsum (x.2.map (·.2))) ts
  have hf : ∀ (l : List (Value × List Int)) y, y ∈ l → y.2.length ≤ fsum (l.map (·.2)) := fun l y hy => by
    unfold fsum
    rw [List.map_map]
    exact sum_mem (List.length ∘ fun x : Value × List Int => x.2) l y hy
  have hc : csF ts ≤ tsum ts + ts.length := by
    clear h ho ht
    induction ts with
    | nil => exact Nat.zero_le _
    | cons x r ih =>
      simp only [csF, tsum, List.map_cons, List.sum_cons, List.length_cons] at ih ⊢
      omega
  unfold gsz szs at h
  exact ⟨by omega, fun x hx => by have := ho x hx; omega, by omega, fun x hx => ⟨by have := ht x hx; omega, fun y hy => by have := ht x hx; have := hf _ y hy; omega⟩, by omega, by omega, by omega, by omega⟩

theorem sln_of (h : gsz os ts g ≤ 1048576) : Sln ts := by
  have ht : ∀ x, x ∈ ts → x.2.length + fsum (x.2.map (·.2)) ≤ tsum ts := sum_mem (fun x : Value × List (Value × List Int) => x.2.length + fsum (x.2.map (·.2))) ts
  unfold gsz szs at h
  exact ⟨by omega, fun x hx => by have := ht x hx; omega⟩

theorem Lent.grd {w : World} {N : Nat → Nat} {F : List Nat} {lo : Nat} {vo vs vh vr vq : Value} (h : Lent w N F lo vo vs vh vr vq os ts g) (hr : ∀ x, x ∈ os → obR x.o) (hz : gsz os ts g ≤ 1048576) (hx : g.next < 18446744073709551616) : Grd w.heap.size w vo vs vh vr vq os ts g := by
  obtain ⟨⟨b, h1⟩, h2, ⟨bh, h3⟩, ⟨br, h4⟩, ⟨bq, h5⟩, h6, h7⟩ := h
  refine ⟨h1.ord, h2.trd, h3.lrd, h4.lrd, h5.lrd, h6, h7, hx, fun o ho => ?_⟩
  rw [h6] at ho
  obtain ⟨x, hx', rfl⟩ := List.mem_map.1 ho
  have h8 := (sml_of hz).ol x hx'
  have h9 := hr x hx'
  exact ⟨h9.1, h9.2.1, h9.2.2.1, by omega, by omega⟩

end

/-- A new room. -/
def rs0 : RS := ⟨.slice none 0 0, .slice none 0 0, .slice none 0 0, .slice none 0 0, .slice none 0 0, [], [], [], [], []⟩

theorem Bd.new (w : World) (n1 : Nat) (hn : n1 ≤ w.heap.size) : Bd (w.alloc (.cells (rmc (.slice none 0 0) (.slice none 0 0) (.slice none 0 0) (.slice none 0 0) (.slice none 0 0)) 37)) n1 w.heap.size (fun _ => 0) rs0 [] :=
  { r := heap_alloc_new w _, hR := hn
    o1 := World.ownsRow_nil _ _ _ _, o2 := World.ownsRow_nil _ _ _ _, o5 := World.ownsRow_nil _ _ _ _, o6 := World.ownsRow_nil _ _ _ _, o7 := World.ownsRow_nil _ _ _ _
    m1 := (fun v hv => nomatch hv), m2 := (fun v hv => nomatch hv), m5 := (fun v hv => nomatch hv), m6 := (fun v hv => nomatch hv), m7 := (fun v hv => nomatch hv)
    z := fun _ _ => rfl, d := fun _ _ => rfl, x := (fun k hk => nomatch hk) }

theorem gsz_eq {os os' : List OL} {ts ts' : List (Value × List (Value × List Int))} {g : Im.Gr} (eo : os.map (·.o) = os'.map (·.o)) (es : ts.map (fun t => t.2.map (·.2)) = ts'.map (fun t => t.2.map (·.2))) : gsz os ts g = gsz os' ts' g := by
  have h1 : os.length = os'.length := by have := congrArg List.length eo; simpa using this
  have h2 : ts.length = ts'.length := by have := congrArg List.length es; simpa using this
  have h3 : osum os = osum os' := by
    have := congrArg (fun l => (l.map (fun o : Im.Ob => o.ps.length + o.rs.length)).sum) eo
    simpa [osum, List.map_map, Function.comp_def] using this
  have h4 : tsum ts = tsum ts' := by
    have := congrArg (fun l => (l.map (fun t : List (List Int) => t.length + fsum t)).sum) es
    simpa [tsum, List.map_map, Function.comp_def] using this
  simp only [gsz, szs, h1, h2, h3, h4]

theorem obR_of {os os' : List OL} (eo : os.map (·.o) = os'.map (·.o)) (h : ∀ x, x ∈ os → obR x.o) : ∀ x, x ∈ os' → obR x.o := fun x hx => by
  have h1 : x.o ∈ os.map (·.o) := by rw [eo]; exact List.mem_map_of_mem hx
  obtain ⟨y, hy, e⟩ := List.mem_map.1 h1
  rw [← e]
  exact h y hy

theorem Grd.mono {n0 n1 : Nat} {w : World} {vo vs vh vr vq : Value} {os : List OL} {ts : List (Value × List (Value × List Int))} {g : Im.Gr} (h : Grd n0 w vo vs vh vr vq os ts g) (l : n0 ≤ n1) : Grd n1 w vo vs vh vr vq os ts g := by
  have hf : ∀ {v : Value} {fs : List (Value × List Int)}, Frd n0 w v fs → Frd n1 w v fs := fun ⟨a, cap, h1, h2⟩ => ⟨a, cap, h1, fun i x hx => by
    obtain ⟨h3, q, off, h4, h5, h6⟩ := h2 i x hx
    exact ⟨h3.mono l, q, off, h4, Nat.lt_of_lt_of_le h5 l, h6⟩⟩
  refine ⟨?_, ?_, h.hs.mono l, h.rg.mono l, h.qu.mono l, h.eo, h.es, h.nx, h.sr⟩
  · obtain ⟨a, cap, h1, h2⟩ := h.ob
    refine ⟨a, cap, h1, fun i x hx => ?_⟩
    obtain ⟨h3, h4, q, off, h5, h6, h7⟩ := h2 i x hx
    exact ⟨h3.mono l, h4.mono l, q, off, h5, Nat.lt_of_lt_of_le h6 l, h7⟩
  · obtain ⟨a, cap, h1, h2⟩ := h.sl
    refine ⟨a, cap, h1, fun i x hx => ?_⟩
    obtain ⟨h3, q, off, h4, h5, h6⟩ := h2 i x hx
    exact ⟨hf h3, q, off, h4, Nat.lt_of_lt_of_le h5 l, h6⟩

end Go.Proofs.YtckgcpoheodbcaaDoor
