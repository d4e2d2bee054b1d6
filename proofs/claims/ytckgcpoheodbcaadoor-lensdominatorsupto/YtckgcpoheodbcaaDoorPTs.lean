import Derived.Test.YtckgcpoheodbcaaDoorPRi
/-
  Images: what is the same is told to be the same: lists, objects.
-/
set_option linter.unusedVariables false
set_option maxRecDepth 20000
namespace Go.Proofs.YtckgcpoheodbcaaDoor
open Go.RowKit Go.Shelf

end Go.Proofs.YtckgcpoheodbcaaDoor

/-
  Images: is a graph small enough to be looked at?
-/
set_option linter.unusedVariables false
set_option maxRecDepth 20000
namespace Go.Proofs.YtckgcpoheodbcaaDoor
open Go.RowKit Go.Shelf

def osum (l : List OL) : Nat := (l.map (fun x => x.o.ps.length + x.o.rs.length)).sum
def tsum (l : List (Value × List (Value × List Int))) : Nat := (l.map (fun x => x.2.length + fsum (x.2.map (·.2)))).sum

theorem osum_snoc {l : List OL} {k : Nat} {x : OL} (h : l[k]? = some x) : osum (l.take (k + 1)) = osum (l.take k) + (x.o.ps.length + x.o.rs.length) := by
  unfold osum
  rw [take_snocL h, List.map_append, List.sum_append]
  simp
theorem tsum_snoc {l : List (Value × List (Value × List Int))} {k : Nat} {x : Value × List (Value × List Int)} (h : l[k]? = some x) : tsum (l.take (k + 1)) = tsum (l.take k) + (x.2.length + fsum (x.2.map (·.2))) := by
  unfold tsum
  rw [take_snocL h, List.map_append, List.sum_append]
  simp

/-- How long what comes in may be. -/
structure Inb (os : List OL) (ts : List (Value × List (Value × List Int))) (g : Im.Gr) : Prop where
  o : os.length ≤ 1000000000000000
  ol : ∀ x, x ∈ os → x.o.ps.length ≤ 1000000000000000 ∧ x.o.rs.length ≤ 1000000000000000
  t : ts.length ≤ 1000000000000000
  tl : ∀ x, x ∈ ts → x.2.length ≤ 1000000000000000 ∧ ∀ y, y ∈ x.2 → y.2.length ≤ 1000000000000000
  h : g.hs.length ≤ 1000000000000000
  r : g.rg.length ≤ 1000000000000000
  q : g.qu.length ≤ 1000000000000000

def szs (os : List OL) (ts : List (Value × List (Value × List Int))) (g : Im.Gr) : Nat := os.length + ts.length + g.hs.length + g.rg.length + g.qu.length

end Go.Proofs.YtckgcpoheodbcaaDoor

/-
  Images: numbers in a graph's lists are others now.
-/
set_option linter.unusedVariables false
set_option maxRecDepth 20000
namespace Go.Proofs.YtckgcpoheodbcaaDoor
open Go.RowKit Go.Shelf

/-- A number that may be. -/
def inR (k : IntKind) (z : Int) : Prop := (k = .i64 → InI z) ∧ (k = .u64 → 0 ≤ z ∧ z < 18446744073709551616)

/-- Nothing but numbers has changed. -/
structure Shp (w w' : World) : Prop where
  s : w.heap.size ≤ w'.heap.size
  c : ∀ b f, b < w.heap.size → w'.cell? ⟨b, f, none⟩ = w.cell? ⟨b, f, none⟩ ∨ ∃ k z z', w.cell? ⟨b, f, none⟩ = some (.int k z) ∧ w'.cell? ⟨b, f, none⟩ = some (.int k z') ∧ inR k z'
  fr : ∀ b f, b < w.heap.size → w'.frozen? ⟨b, f, none⟩ = w.frozen? ⟨b, f, none⟩

theorem Shp.refl (w : World) : Shp w w := ⟨Nat.le_refl _, fun _ _ _ => .inl rfl, fun _ _ _ => rfl⟩

theorem Shp.set {w : World} {b f : Nat} {k : IntKind} {z z' : Int} (h : w.cell? ⟨b, f, none⟩ = some (.int k z)) (hr : inR k z') : Shp w (w.setCell ⟨b, f, none⟩ (.int k z')) := by
  refine ⟨by rw [World.size_setCell]; exact Nat.le_refl _, fun b' f' hb => ?_, fun b' f' _ => World.frozen?_setCell _ _ _ _⟩
  by_cases e : b' = b ∧ f' = f
  · obtain ⟨rfl, rfl⟩ := e
    exact .inr ⟨k, z, z', h, World.cell?_setCell_same _ _ _ h, hr⟩
  · exact .inl (World.cell?_setCell_other _ _ _ _ (fun h9 => e (by cases h9; exact ⟨rfl, rfl⟩)))

theorem list_choice {α : Type} (P : Nat → α → Prop) : ∀ n, (∀ i, i < n → ∃ x, P i x) → ∃ L : List α, L.length = n ∧ ∀ (i : Nat) x, L[i]? = some x → P i x
  | 0, _ => ⟨[], rfl, fun i x h => by simp at h⟩
  | n + 1, h => by
    obtain ⟨L, hl, hL⟩ := list_choice P n (fun i hi => h i (by omega))
    obtain ⟨x, hx⟩ := h n (Nat.lt_succ_self _)
    refine ⟨L ++ [x], by rw [List.length_append, hl]; rfl, fun i y hy => ?_⟩
    by_cases e : i < n
    · rw [List.getElem?_append_left (by omega)] at hy
      exact hL i y hy
    · have hi := (List.getElem?_eq_some_iff.1 hy).1
      rw [List.length_append, hl] at hi
      simp at hi
      have e2 : i = n := by omega
      subst e2
      rw [List.getElem?_append_right (by omega), hl, Nat.sub_self] at hy
      simp at hy
      rw [← hy]
      exact hx

theorem map_eq {α β : Type} {L L' : List α} (f : α → β) (hl : L'.length = L.length) (h : ∀ (i : Nat) x x', L[i]? = some x → L'[i]? = some x' → f x' = f x) : L'.map f = L.map f := by
  apply List.ext_getElem?
  intro i
  rw [List.getElem?_map, List.getElem?_map]
  by_cases hi : i < L.length
  · have h1 : L[i]? = some (L[i]'hi) := List.getElem?_eq_getElem hi
    have h2 : L'[i]? = some (L'[i]'(by omega)) := List.getElem?_eq_getElem (by omega)
    rw [h1, h2, Option.map_some, Option.map_some, h i _ _ h1 h2]
  · rw [List.getElem?_eq_none (by omega), List.getElem?_eq_none (by omega)]

theorem Shp.int {w w' : World} (h : Shp w w') {b f : Nat} {k : IntKind} {z : Int} (hb : b < w.heap.size) (hc : w.cell? ⟨b, f, none⟩ = some (.int k z)) : ∃ z', w'.cell? ⟨b, f, none⟩ = some (.int k z') ∧ (z' = z ∨ inR k z') := by
  rcases h.c b f hb with h1 | ⟨k', y, z', h1, h2, h3⟩
  · exact ⟨z, h1.trans hc, .inl rfl⟩
  · rw [hc] at h1
    cases h1
    exact ⟨z', h2, .inr h3⟩

theorem Shp.other {w w' : World} (h : Shp w w') {b f : Nat} {v : Value} (hb : b < w.heap.size) (hc : w.cell? ⟨b, f, none⟩ = some v) (hv : ∀ k z, v ≠ .int k z) : w'.cell? ⟨b, f, none⟩ = some v := by
  rcases h.c b f hb with h1 | ⟨k', y, z', h1, h2, h3⟩
  · exact h1.trans hc
  · rw [hc] at h1
    cases h1
    exact absurd rfl (hv k' y)

variable {w w' : World} {N : Nat → Nat} {lo : Nat}

theorem Got.shp {b : Nat} {k : IntKind} {v : Value} {xs : List Int} (h : Got w N [] lo b k v xs) (s : Shp w w') : ∃ xs', xs'.length = xs.length ∧ Got w' N [] lo b k v xs' ∧ ∀ z, z ∈ xs' → z ∈ xs ∨ inR k z := by
  obtain ⟨L, hl, hL⟩ := list_choice (fun i z' => w'.cell? ⟨b, i, none⟩ = some (.int k z') ∧ (z' ∈ xs ∨ inR k z')) xs.length (fun i hi => by
    have h1 : xs[i]? = some (xs[i]'hi) := List.getElem?_eq_getElem hi
    obtain ⟨z', h2, h3⟩ := s.int h.lt (h.c i _ h1)
    exact ⟨z', h2, h3.imp (fun e => by rw [e]; exact List.getElem_mem hi) id⟩)
  refine ⟨L, hl, ⟨by rw [hl]; exact h.is, h.lo, Nat.lt_of_lt_of_le h.lt s.s, h.f, by rw [hl]; exact h.n, fun f z hz => (hL f z hz).1, fun f => by rw [s.fr b f h.lt]; exact h.fr f⟩, fun z hz => ?_⟩
  obtain ⟨i, hi⟩ := List.getElem?_of_mem hz
  exact (hL i z hi).2

theorem Got.shpu {b : Nat} {v : Value} {rs : List Nat} (h : Got w N [] lo b .u64 v (rs.map Int.ofNat)) (s : Shp w w') : ∃ rs' : List Nat, rs'.length = rs.length ∧ Got w' N [] lo b .u64 v (rs'.map Int.ofNat) ∧ ((∀ n, n ∈ rs → n < 18446744073709551616) → ∀ n, n ∈ rs' → n < 18446744073709551616) := by
  obtain ⟨xs, h1, h2, h3⟩ := h.shp s
  have hnn : ∀ z, z ∈ xs → 0 ≤ z := fun z hz => by
    rcases h3 z hz with h4 | h4
    · obtain ⟨r, -, rfl⟩ := List.mem_map.1 h4
      exact Int.natCast_nonneg _
    · exact (h4.2 rfl).1
  have e : (xs.map Int.toNat).map Int.ofNat = xs := Im.map_ofNat_toNat hnn
  refine ⟨xs.map Int.toNat, by rw [List.length_map, h1, List.length_map], ?_, fun hr n hn => ?_⟩
  · rw [e]
    exact h2
  · obtain ⟨z, hz, rfl⟩ := List.mem_map.1 hn
    rcases h3 z hz with h4 | h4
    · obtain ⟨r, hrm, rfl⟩ := List.mem_map.1 h4
      exact hr r hrm
    · have := h4.2 rfl
      omega

/-- An object's numbers may be. -/
def obR (o : Im.Ob) : Prop := o.ser < 18446744073709551616 ∧ InI o.kind ∧ InI o.site ∧ ∀ n, n ∈ o.rs → n < 18446744073709551616

theorem GotO.shp {b : Nat} {v : Value} {os : List OL} (h : GotO w N [] lo b v os) (s : Shp w w') (hr : ∀ x, x ∈ os → obR x.o) : ∃ os', os'.length = os.length ∧ GotO w' N [] lo b v os' ∧ (∀ x, x ∈ os' → obR x.o) ∧ osum os' = osum os := by
  obtain ⟨L, hl, hL⟩ := list_choice (fun i (x' : OL) => ((∀ j, j < 5 → w'.cell? ⟨b, i * 5 + j, none⟩ = x'.cells[j]?) ∧ PO lo w' N [] x') ∧ obR x'.o ∧ ∀ x, os[i]? = some x → x'.o.ps.length + x'.o.rs.length = x.o.ps.length + x.o.rs.length) os.length (fun i hi => by
    have h1 : os[i]? = some (os[i]'hi) := List.getElem?_eq_getElem hi
    have hm : os[i]'hi ∈ os := List.getElem_mem hi
    generalize os[i]'hi = x at h1 hm
    obtain ⟨hc, ⟨bp, hp⟩, br, hrr⟩ := h.c i x h1
    have c0 : w.cell? ⟨b, i * 5, none⟩ = some (.int .u64 x.o.ser) := hc 0 (by omega)
    have c1 : w.cell? ⟨b, i * 5 + 1, none⟩ = some (.int .i64 x.o.kind) := hc 1 (by omega)
    have c2 : w.cell? ⟨b, i * 5 + 2, none⟩ = some (.int .i64 x.o.site) := hc 2 (by omega)
    have c3 : w.cell? ⟨b, i * 5 + 3, none⟩ = some x.vp := hc 3 (by omega)
    have c4 : w.cell? ⟨b, i * 5 + 4, none⟩ = some x.vr := hc 4 (by omega)
    obtain ⟨z0, e0, r0⟩ := s.int h.lt c0
    obtain ⟨z1, e1, r1⟩ := s.int h.lt c1
    obtain ⟨z2, e2, r2⟩ := s.int h.lt c2
    have e3 := s.other h.lt c3 (fun k z e => by rw [hp.is] at e; cases e)
    have e4 := s.other h.lt c4 (fun k z e => by rw [hrr.is] at e; cases e)
    obtain ⟨ps, l1, g1, -⟩ := hp.shp s
    obtain ⟨rs, l2, g2, g3⟩ := hrr.shpu s
    have hx := hr x hm
    have q0 : 0 ≤ z0 ∧ z0 < 18446744073709551616 := by
      rcases r0 with e | e
      · rw [e]; have := hx.1; omega
      · exact e.2 rfl
    have q1 : InI z1 := by
      rcases r1 with e | e
      · rw [e]; exact hx.2.1
      · exact e.1 rfl
    have q2 : InI z2 := by
      rcases r2 with e | e
      · rw [e]; exact hx.2.2.1
      · exact e.1 rfl
    refine ⟨⟨⟨z0.toNat, z1, z2, ps, rs⟩, x.vp, x.vr⟩, ⟨fun j hj => ?_, ⟨bp, g1⟩, br, g2⟩, ⟨by show z0.toNat < _; omega, q1, q2, g3 hx.2.2.2⟩, fun y hy => ?_⟩
    · match j, hj with
      | 0, _ => rw [Nat.add_zero, e0]; show some _ = some (Value.int .u64 ((z0.toNat : Nat) : Int)); rw [show ((z0.toNat : Nat) : Int) = z0 by omega]
      | 1, _ => exact e1
      | 2, _ => exact e2
      | 3, _ => exact e3
      | 4, _ => exact e4
    · rw [h1] at hy
      cases hy
      show ps.length + rs.length = _
      rw [l1, l2])
  refine ⟨L, hl, ⟨by rw [hl]; exact h.is, h.l, Nat.lt_of_lt_of_le h.lt s.s, h.f, by rw [hl]; exact h.n, fun i x hx => (hL i x hx).1, fun f => by rw [s.fr b f h.lt]; exact h.fr f⟩, fun x hx => ?_, ?_⟩
  · obtain ⟨i, hi⟩ := List.getElem?_of_mem hx
    exact (hL i x hi).2.1
  · unfold osum
    rw [map_eq (fun x : OL => x.o.ps.length + x.o.rs.length) hl (fun i x x' h1 h2 => (hL i x' h2).2.2 x h1)]

theorem GotS.shp {b : Nat} {v : Value} {fs : List (Value × List Int)} (h : GotS (PI lo) w N [] lo b v fs) (s : Shp w w') : ∃ fs', fs'.length = fs.length ∧ GotS (PI lo) w' N [] lo b v fs' ∧ fsum (fs'.map (·.2)) = fsum (fs.map (·.2)) := by
  obtain ⟨L, hl, hL⟩ := list_choice (fun i (x' : Value × List Int) => (w'.cell? ⟨b, i, none⟩ = some x'.1 ∧ PI lo w' N [] x'.1 x'.2) ∧ ∀ x, fs[i]? = some x → x'.2.length = x.2.length) fs.length (fun i hi => by
    have h1 : fs[i]? = some (fs[i]'hi) := List.getElem?_eq_getElem hi
    generalize fs[i]'hi = x at h1
    obtain ⟨hc, bp, hp⟩ := h.c i x h1
    have e3 := s.other h.lt hc (fun k z e => by rw [hp.is] at e; cases e)
    obtain ⟨ps, l1, g1, -⟩ := hp.shp s
    exact ⟨(x.1, ps), ⟨e3, bp, g1⟩, fun y hy => by rw [h1] at hy; cases hy; exact l1⟩)
  refine ⟨L, hl, ⟨by rw [hl]; exact h.is, h.lo, Nat.lt_of_lt_of_le h.lt s.s, h.f, by rw [hl]; exact h.n, fun i x hx => (hL i x hx).1⟩, ?_⟩
  unfold fsum
  rw [List.map_map, List.map_map, map_eq (List.length ∘ fun x : Value × List Int => x.2) hl (fun i x x' h1 h2 => (hL i x' h2).2 x h1)]

theorem PT.shp {v : Value} {ts : List (Value × List (Value × List Int))} (h : PT lo w N [] v ts) (s : Shp w w') : ∃ ts', ts'.length = ts.length ∧ PT lo w' N [] v ts' ∧ tsum ts' = tsum ts := by
  obtain ⟨b, h⟩ := h
  obtain ⟨L, hl, hL⟩ := list_choice (fun i (x' : Value × List (Value × List Int)) => (w'.cell? ⟨b, i, none⟩ = some x'.1 ∧ PL lo w' N [] x'.1 x'.2) ∧ ∀ x, ts[i]? = some x → x'.2.length + fsum (x'.2.map (·.2)) = x.2.length + fsum (x.2.map (·.2))) ts.length (fun i hi => by
    have h1 : ts[i]? = some (ts[i]'hi) := List.getElem?_eq_getElem hi
    generalize ts[i]'hi = x at h1
    obtain ⟨hc, bp, hp⟩ := h.c i x h1
    have e3 := s.other h.lt hc (fun k z e => by rw [hp.is] at e; cases e)
    obtain ⟨ps, l1, g1, l2⟩ := hp.shp s
    exact ⟨(x.1, ps), ⟨e3, bp, g1⟩, fun y hy => by rw [h1] at hy; cases hy; show ps.length + fsum (ps.map (·.2)) = _; rw [l1, l2]⟩)
  refine ⟨L, hl, ⟨b, by rw [hl]; exact h.is, h.lo, Nat.lt_of_lt_of_le h.lt s.s, h.f, by rw [hl]; exact h.n, fun i x hx => (hL i x hx).1⟩, ?_⟩
  unfold tsum
  rw [map_eq (fun x : Value × List (Value × List Int) => x.2.length + fsum (x.2.map (·.2))) hl (fun i x x' h1 h2 => (hL i x' h2).2 x h1)]

/-- How great a graph is. -/
def gsz (os : List OL) (ts : List (Value × List (Value × List Int))) (g : Im.Gr) : Nat := szs os ts g + osum os + tsum ts

theorem Lent.shp {vo vs vh vr vq : Value} {os : List OL} {ts : List (Value × List (Value × List Int))} {g : Im.Gr} (h : Lent w N [] lo vo vs vh vr vq os ts g) (s : Shp w w') (hr : ∀ x, x ∈ os → obR x.o) : ∃ os' ts' g', Lent w' N [] lo vo vs vh vr vq os' ts' g' ∧ (∀ x, x ∈ os' → obR x.o) ∧ gsz os' ts' g' = gsz os ts g ∧ g'.next = g.next ∧ os'.length = os.length ∧ ts'.length = ts.length ∧ g'.hs.length = g.hs.length := by
  obtain ⟨⟨b, h1⟩, h2, ⟨bh, h3⟩, ⟨br, h4⟩, ⟨bq, h5⟩, h6, h7⟩ := h
  obtain ⟨os', l1, g1, r1, e1⟩ := h1.shp s hr
  obtain ⟨ts', l2, g2, e2⟩ := h2.shp s
  obtain ⟨hs', l3, g3, -⟩ := h3.shp s
  obtain ⟨rg', l4, g4, -⟩ := h4.shp s
  obtain ⟨qu', l5, g5, -⟩ := h5.shp s
  refine ⟨os', ts', ⟨g.next, os'.map (·.o), ts'.map (fun t => t.2.map (·.2)), hs', rg', qu'⟩, ⟨⟨b, g1⟩, g2, ⟨bh, g3⟩, ⟨br, g4⟩, ⟨bq, g5⟩, rfl, rfl⟩, r1, ?_, rfl, l1, l2, l3⟩
  unfold gsz szs
  simp only
  rw [l1, l2, l3, l4, l5, e1, e2]

end Go.Proofs.YtckgcpoheodbcaaDoor

