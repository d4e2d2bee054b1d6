import Derived.Test.YtblbiikfipcbcaaGreatDoorPSg
import Derived.Deep.CutRange
/-
  Images: numbers in a graph's lists are others now.
-/
set_option linter.unusedVariables false
set_option maxRecDepth 20000
namespace Go.Proofs.YtblbiikfipcbcaaGreatDoor
open Go.RowKit Go.Shelf

/-- A number that may be. -/
def inR (k : IntKind) (z : Int) : Prop := (k = .i64 → InI z) ∧ (k = .u64 → 0 ≤ z ∧ z < 18446744073709551616)

/-- Nothing but numbers has changed. -/
structure Shp (w w' : World) : Prop where
  s : w.heap.size ≤ w'.heap.size
  c : ∀ b f, b < w.heap.size → w'.cell? ⟨b, f, none⟩ = w.cell? ⟨b, f, none⟩ ∨ ∃ k z z', w.cell? ⟨b, f, none⟩ = some (.int k z) ∧ w'.cell? ⟨b, f, none⟩ = some (.int k z') ∧ inR k z'
  fr : ∀ b f, b < w.heap.size → w'.frozen? ⟨b, f, none⟩ = w.frozen? ⟨b, f, none⟩

theorem Shp.refl (w : World) : Shp w w := ⟨Nat.le_refl _, fun _ _ _ => .inl rfl, fun _ _ _ => rfl⟩

theorem Shp.set {w : World} {b f : Nat} {k : IntKind} {z z' : Int} (h : w.cell? ⟨b, f, none⟩ = some (.int k z)) (hr : inR k z') : Shp w (w.setCell ⟨b, f, none⟩ (.int k z')) := by
  refine ⟨by rw [World.size_setCell]; exact Nat.le_refl _, fun b' f' hb => ?_, fun b' f' _ => World.frozen?_setCell _ _ _ _⟩
  by_cases e : b' = b ∧ f' = f
  · obtain ⟨rfl, rfl⟩ := e
    exact .inr ⟨k, z, z', h, World.cell?_setCell_same _ _ _ h, hr⟩
  · exact .inl (World.cell?_setCell_other _ _ _ _ (fun h9 => e (by cases h9; exact ⟨rfl, rfl⟩)))

theorem list_choice {α : Type} (P : Nat → α → Prop) : ∀ n, (∀ i, i < n → ∃ x, P i x) → ∃ L : List α, L.length = n ∧ ∀ (i : Nat) x, L[i]? = some x → P i x
  | 0, _ => ⟨[], rfl, fun i x h => by simp at h⟩
  | n + 1, h => by
    obtain ⟨L, hl, hL⟩ := list_choice P n (fun i hi => h i (by omega))
    obtain ⟨x, hx⟩ := h n (Nat.lt_succ_self _)
    refine ⟨L ++ [x], by rw [List.length_append, hl]; rfl, fun i y hy => ?_⟩
    by_cases e : i < n
    · rw [List.getElem?_append_left (by omega)] at hy
      exact hL i y hy
    · have hi := (List.getElem?_eq_some_iff.1 hy).1
      rw [List.length_append, hl] at hi
      simp at hi
      have e2 : i = n := by omega
      subst e2
      rw [List.getElem?_append_right (by omega), hl, Nat.sub_self] at hy
      simp at hy
      rw [← hy]
      exact hx

theorem map_eq {α β : Type} {L L' : List α} (f : α → β) (hl : L'.length = L.length) (h : ∀ (i : Nat) x x', L[i]? = some x → L'[i]? = some x' → f x' = f x) : L'.map f = L.map f := by
  apply List.ext_getElem?
  intro i
  rw [List.getElem?_map, List.getElem?_map]
  by_cases hi : i < L.length
  · have h1 : L[i]? = some (L[i]'hi) := List.getElem?_eq_getElem hi
    have h2 : L'[i]? = some (L'[i]'(by omega)) := List.getElem?_eq_getElem (by omega)
    rw [h1, h2, Option.map_some, Option.map_some, h i _ _ h1 h2]
  · rw [List.getElem?_eq_none (by omega), List.getElem?_eq_none (by omega)]

theorem Shp.int {w w' : World} (h : Shp w w') {b f : Nat} {k : IntKind} {z : Int} (hb : b < w.heap.size) (hc : w.cell? ⟨b, f, none⟩ = some (.int k z)) : ∃ z', w'.cell? ⟨b, f, none⟩ = some (.int k z') ∧ (z' = z ∨ inR k z') := by
  rcases h.c b f hb with h1 | ⟨k', y, z', h1, h2, h3⟩
  · exact ⟨z, h1.trans hc, .inl rfl⟩
  · rw [hc] at h1
    cases h1
    exact ⟨z', h2, .inr h3⟩

theorem Shp.other {w w' : World} (h : Shp w w') {b f : Nat} {v : Value} (hb : b < w.heap.size) (hc : w.cell? ⟨b, f, none⟩ = some v) (hv : ∀ k z, v ≠ .int k z) : w'.cell? ⟨b, f, none⟩ = some v := by
  rcases h.c b f hb with h1 | ⟨k', y, z', h1, h2, h3⟩
  · exact h1.trans hc
  · rw [hc] at h1
    cases h1
    exact absurd rfl (hv k' y)

variable {w w' : World} {N : Nat → Nat} {lo : Nat}

theorem Got.shp {b : Nat} {k : IntKind} {v : Value} {xs : List Int} (h : Got w N [] lo b k v xs) (s : Shp w w') : ∃ xs', xs'.length = xs.length ∧ Got w' N [] lo b k v xs' ∧ ∀ z, z ∈ xs' → z ∈ xs ∨ inR k z := by
  obtain ⟨L, hl, hL⟩ := list_choice (fun i z' => w'.cell? ⟨b, i, none⟩ = some (.int k z') ∧ (z' ∈ xs ∨ inR k z')) xs.length (fun i hi => by
    have h1 : xs[i]? = some (xs[i]'hi) := List.getElem?_eq_getElem hi
    obtain ⟨z', h2, h3⟩ := s.int h.lt (h.c i _ h1)
    exact ⟨z', h2, h3.imp (fun e => by rw [e]; exact List.getElem_mem hi) id⟩)
  refine ⟨L, hl, ⟨by rw [hl]; exact h.is, h.lo, Nat.lt_of_lt_of_le h.lt s.s, h.f, by rw [hl]; exact h.n, fun f z hz => (hL f z hz).1, fun f => by rw [s.fr b f h.lt]; exact h.fr f⟩, fun z hz => ?_⟩
  obtain ⟨i, hi⟩ := List.getElem?_of_mem hz
  exact (hL i z hi).2

theorem Got.shpu {b : Nat} {v : Value} {rs : List Nat} (h : Got w N [] lo b .u64 v (rs.map Int.ofNat)) (s : Shp w w') : ∃ rs' : List Nat, rs'.length = rs.length ∧ Got w' N [] lo b .u64 v (rs'.map Int.ofNat) ∧ ((∀ n, n ∈ rs → n < 18446744073709551616) → ∀ n, n ∈ rs' → n < 18446744073709551616) := by
  obtain ⟨xs, h1, h2, h3⟩ := h.shp s
  have hnn : ∀ z, z ∈ xs → 0 ≤ z := fun z hz => by
    rcases h3 z hz with h4 | h4
    · obtain ⟨r, -, rfl⟩ := List.mem_map.1 h4
      exact Int.natCast_nonneg _
    · exact (h4.2 rfl).1
  have e : (xs.map Int.toNat).map Int.ofNat = xs := Im.map_ofNat_toNat hnn
  refine ⟨xs.map Int.toNat, by rw [List.length_map, h1, List.length_map], ?_, fun hr n hn => ?_⟩
  · rw [e]
    exact h2
  · obtain ⟨z, hz, rfl⟩ := List.mem_map.1 hn
    rcases h3 z hz with h4 | h4
    · obtain ⟨r, hrm, rfl⟩ := List.mem_map.1 h4
      exact hr r hrm
    · have := h4.2 rfl
      omega

/-- An object's numbers may be. -/
def obR (o : Im.Ob) : Prop := o.ser < 18446744073709551616 ∧ InI o.kind ∧ InI o.site ∧ ∀ n, n ∈ o.rs → n < 18446744073709551616

theorem GotO.shp {b : Nat} {v : Value} {os : List OL} (h : GotO w N [] lo b v os) (s : Shp w w') (hr : ∀ x, x ∈ os → obR x.o) : ∃ os', os'.length = os.length ∧ GotO w' N [] lo b v os' ∧ (∀ x, x ∈ os' → obR x.o) ∧ osum os' = osum os := by
  obtain ⟨L, hl, hL⟩ := list_choice (fun i (x' : OL) => ((∀ j, j < 5 → w'.cell? ⟨b, i * 5 + j, none⟩ = x'.cells[j]?) ∧ PO lo w' N [] x') ∧ obR x'.o ∧ ∀ x, os[i]? = some x → x'.o.ps.length + x'.o.rs.length = x.o.ps.length + x.o.rs.length) os.length (fun i hi => by
    have h1 : os[i]? = some (os[i]'hi) := List.getElem?_eq_getElem hi
    have hm : os[i]'hi ∈ os := List.getElem_mem hi
    generalize os[i]'hi = x at h1 hm
    obtain ⟨hc, ⟨bp, hp⟩, br, hrr⟩ := h.c i x h1
    have c0 : w.cell? ⟨b, i * 5, none⟩ = some (.int .u64 x.o.ser) := hc 0 (by omega)
    have c1 : w.cell? ⟨b, i * 5 + 1, none⟩ = some (.int .i64 x.o.kind) := hc 1 (by omega)
    have c2 : w.cell? ⟨b, i * 5 + 2, none⟩ = some (.int .i64 x.o.site) := hc 2 (by omega)
    have c3 : w.cell? ⟨b, i * 5 + 3, none⟩ = some x.vp := hc 3 (by omega)
    have c4 : w.cell? ⟨b, i * 5 + 4, none⟩ = some x.vr := hc 4 (by omega)
    obtain ⟨z0, e0, r0⟩ := s.int h.lt c0
    obtain ⟨z1, e1, r1⟩ := s.int h.lt c1
    obtain ⟨z2, e2, r2⟩ := s.int h.lt c2
    have e3 := s.other h.lt c3 (fun k z e => by rw [hp.is] at e; cases e)
    have e4 := s.other h.lt c4 (fun k z e => by rw [hrr.is] at e; cases e)
    obtain ⟨ps, l1, g1, -⟩ := hp.shp s
    obtain ⟨rs, l2, g2, g3⟩ := hrr.shpu s
    have hx := hr x hm
    have q0 : 0 ≤ z0 ∧ z0 < 18446744073709551616 := by
      rcases r0 with e | e
      · rw [e]; have := hx.1; omega
      · exact e.2 rfl
    have q1 : InI z1 := by
      rcases r1 with e | e
      · rw [e]; exact hx.2.1
      · exact e.1 rfl
    have q2 : InI z2 := by
      rcases r2 with e | e
      · rw [e]; exact hx.2.2.1
      · exact e.1 rfl
    refine ⟨⟨⟨z0.toNat, z1, z2, ps, rs⟩, x.vp, x.vr⟩, ⟨fun j hj => ?_, ⟨bp, g1⟩, br, g2⟩, ⟨by show z0.toNat < _; omega, q1, q2, g3 hx.2.2.2⟩, fun y hy => ?_⟩
    · match j, hj with
      | 0, _ => rw [Nat.add_zero, e0]; show some _ = some (Value.int .u64 ((z0.toNat : Nat) : Int)); rw [show ((z0.toNat : Nat) : Int) = z0 by omega]
      | 1, _ => exact e1
      | 2, _ => exact e2
      | 3, _ => exact e3
      | 4, _ => exact e4
    · rw [h1] at hy
      cases hy
      show ps.length + rs.length = _
      rw [l1, l2])
  refine ⟨L, hl, ⟨by rw [hl]; exact h.is, h.l, Nat.lt_of_lt_of_le h.lt s.s, h.f, by rw [hl]; exact h.n, fun i x hx => (hL i x hx).1, fun f => by rw [s.fr b f h.lt]; exact h.fr f⟩, fun x hx => ?_, ?_⟩
  · obtain ⟨i, hi⟩ := List.getElem?_of_mem hx
    exact (hL i x hi).2.1
  · unfold osum
    rw [map_eq (fun x : OL => x.o.ps.length + x.o.rs.length) hl (fun i x x' h1 h2 => (hL i x' h2).2.2 x h1)]

theorem GotS.shp {b : Nat} {v : Value} {fs : List (Value × List Int)} (h : GotS (PI lo) w N [] lo b v fs) (s : Shp w w') : ∃ fs', fs'.length = fs.length ∧ GotS (PI lo) w' N [] lo b v fs' ∧ fsum (fs'.map (·.2)) = fsum (fs.map (·.2)) := by
  obtain ⟨L, hl, hL⟩ := list_choice (fun i (x' : Value × List Int) => (w'.cell? ⟨b, i, none⟩ = some x'.1 ∧ PI lo w' N [] x'.1 x'.2) ∧ ∀ x, fs[i]? = some x → x'.2.length = x.2.length) fs.length (fun i hi => by
    have h1 : fs[i]? = some (fs[i]'hi) := List.getElem?_eq_getElem hi
    generalize fs[i]'hi = x at h1
    obtain ⟨hc, bp, hp⟩ := h.c i x h1
    have e3 := s.other h.lt hc (fun k z e => by rw [hp.is] at e; cases e)
    obtain ⟨ps, l1, g1, -⟩ := hp.shp s
    exact ⟨(x.1, ps), ⟨e3, bp, g1⟩, fun y hy => by rw [h1] at hy; cases hy; exact l1⟩)
  refine ⟨L, hl, ⟨by rw [hl]; exact h.is, h.lo, Nat.lt_of_lt_of_le h.lt s.s, h.f, by rw [hl]; exact h.n, fun i x hx => (hL i x hx).1⟩, ?_⟩
  unfold fsum
  rw [List.map_map, List.map_map, map_eq (List.length ∘ fun x : Value × List Int => x.2) hl (fun i x x' h1 h2 => (hL i x' h2).2 x h1)]

theorem PT.shp {v : Value} {ts : List (Value × List (Value × List Int))} (h : PT lo w N [] v ts) (s : Shp w w') : ∃ ts', ts'.length = ts.length ∧ PT lo w' N [] v ts' ∧ tsum ts' = tsum ts := by
  obtain ⟨b, h⟩ := h
  obtain ⟨L, hl, hL⟩ := list_choice (fun i (x' : Value × List (Value × List Int)) => (w'.cell? ⟨b, i, none⟩ = some x'.1 ∧ PL lo w' N [] x'.1 x'.2) ∧ ∀ x, ts[i]? = some x → x'.2.length + fsum (x'.2.map (·.2)) = x.2.length + fsum (x.2.map (·.2))) ts.length (fun i hi => by
    have h1 : ts[i]? = some (ts[i]'hi) := List.getElem?_eq_getElem hi
    generalize ts[i]'hi = x at h1
    obtain ⟨hc, bp, hp⟩ := h.c i x h1
    have e3 := s.other h.lt hc (fun k z e => by rw [hp.is] at e; cases e)
    obtain ⟨ps, l1, g1, l2⟩ := hp.shp s
    exact ⟨(x.1, ps), ⟨e3, bp, g1⟩, fun y hy => by rw [h1] at hy; cases hy; show ps.length + fsum (ps.map (·.2)) = _; rw [l1, l2]⟩)
  refine ⟨L, hl, ⟨b, by rw [hl]; exact h.is, h.lo, Nat.lt_of_lt_of_le h.lt s.s, h.f, by rw [hl]; exact h.n, fun i x hx => (hL i x hx).1⟩, ?_⟩
  unfold tsum
  rw [map_eq (fun x : Value × List (Value × List Int) => x.2.length + fsum (x.2.map (·.2))) hl (fun i x x' h1 h2 => (hL i x' h2).2 x h1)]

/-- How great a graph is. -/
def gsz (os : List OL) (ts : List (Value × List (Value × List Int))) (g : Im.Gr) : Nat := szs os ts g + osum os + tsum ts

theorem Lent.shp {vo vs vh vr vq : Value} {os : List OL} {ts : List (Value × List (Value × List Int))} {g : Im.Gr} (h : Lent w N [] lo vo vs vh vr vq os ts g) (s : Shp w w') (hr : ∀ x, x ∈ os → obR x.o) : ∃ os' ts' g', Lent w' N [] lo vo vs vh vr vq os' ts' g' ∧ (∀ x, x ∈ os' → obR x.o) ∧ gsz os' ts' g' = gsz os ts g ∧ g'.next = g.next ∧ os'.length = os.length ∧ ts'.length = ts.length ∧ g'.hs.length = g.hs.length := by
  obtain ⟨⟨b, h1⟩, h2, ⟨bh, h3⟩, ⟨br, h4⟩, ⟨bq, h5⟩, h6, h7⟩ := h
  obtain ⟨os', l1, g1, r1, e1⟩ := h1.shp s hr
  obtain ⟨ts', l2, g2, e2⟩ := h2.shp s
  obtain ⟨hs', l3, g3, -⟩ := h3.shp s
  obtain ⟨rg', l4, g4, -⟩ := h4.shp s
  obtain ⟨qu', l5, g5, -⟩ := h5.shp s
  refine ⟨os', ts', ⟨g.next, os'.map (·.o), ts'.map (fun t => t.2.map (·.2)), hs', rg', qu'⟩, ⟨⟨b, g1⟩, g2, ⟨bh, g3⟩, ⟨br, g4⟩, ⟨bq, g5⟩, rfl, rfl⟩, r1, ?_, rfl, l1, l2, l3⟩
  unfold gsz szs
  simp only
  rw [l1, l2, l3, l4, l5, e1, e2]

end Go.Proofs.YtblbiikfipcbcaaGreatDoor

/-
  Images: something in each of a graph's lists is another thing now.
-/
set_option linter.unusedVariables false
set_option maxRecDepth 20000
namespace Go.Proofs.YtblbiikfipcbcaaGreatDoor
open Go.RowKit Go.Shelf

/-- A graph that was lent, as great as it was. -/
structure Tn (w0 w : World) (N : Nat → Nat) (n1 : Nat) (vo vs vh vr vq : Value) (sz nx lo lt lh : Nat) : Prop where
  l : ∃ os ts g, Lent w N [] n1 vo vs vh vr vq os ts g ∧ (∀ x, x ∈ os → obR x.o) ∧ gsz os ts g = sz ∧ g.next = nx ∧ os.length = lo ∧ ts.length = lt ∧ g.hs.length = lh
  k : Keeps w0 w N
  b : Below n1 w0 w

theorem Tn.set {w0 w : World} {N : Nat → Nat} {n1 : Nat} {vo vs vh vr vq : Value} {sz nx lo lt lh b f : Nat} {k : IntKind} {z z' : Int} (h : Tn w0 w N n1 vo vs vh vr vq sz nx lo lt lh) (hc : w.cell? ⟨b, f, none⟩ = some (.int k z)) (hf : f < N b) (hb : n1 ≤ b) (hn : n1 ≤ w.heap.size) (hr : inR k z') : Tn w0 (w.setCell ⟨b, f, none⟩ (.int k z')) N n1 vo vs vh vr vq sz nx lo lt lh := by
  obtain ⟨os, ts, g, h1, h2, h3, h4, h5, h6, h7⟩ := h.l
  obtain ⟨os', ts', g', e1, e2, e3, e4, e5, e6, e7⟩ := h1.shp (Shp.set hc hr) h2
  refine ⟨⟨os', ts', g', e1, e2, by rw [e3, h3], by rw [e4, h4], by rw [e5, h5], by rw [e6, h6], by rw [e7, h7]⟩, h.k.trans ⟨by rw [World.size_setCell]; exact Nat.le_refl _, fun b' f' _ hf' => World.cell?_setCell_other _ _ _ _ (fun e => by cases e; omega)⟩, h.b.trans ((Kg.Touch.setCell (F := [b]) w ⟨b, f, none⟩ _ (by simp)).below hn (fun y hy => by simp at hy; omega))⟩

theorem Tn.grow {w0 w w' : World} {N : Nat → Nat} {n1 : Nat} {vo vs vh vr vq : Value} {sz nx lo lt lh : Nat} (h : Tn w0 w N n1 vo vs vh vr vq sz nx lo lt lh) (hb : Below w.heap.size w w') (hn : n1 ≤ w.heap.size) : Tn w0 w' N n1 vo vs vh vr vq sz nx lo lt lh := by
  obtain ⟨os, ts, g, h1, h2⟩ := h.l
  exact ⟨⟨os, ts, g, h1.stp (Stp.below hb), h2⟩, h.k.trans (Keeps.below hb), h.b.trans (hb.mono hn)⟩

theorem cell_keep {w : World} {a c : Addr} {k : IntKind} {z : Int} {u v : Value} (ha : w.cell? a = some (.int k z)) (hc : w.cell? c = some u) (hu : ∀ k z, u ≠ .int k z) : (w.setCell a v).cell? c = some u :=
  (World.cell?_setCell_other _ _ _ _ (fun e => by subst e; rw [ha] at hc; exact hu k z (Option.some.inj hc).symm)).trans hc

theorem inR_i (x y : Int) : inR .i64 (bits .xor .i64 x y) := by
  refine ⟨fun _ => ?_, fun h => by cases h⟩
  unfold bits
  simp only
  rw [IntKind.wrap_i64]
  unfold InI
  omega
theorem inR_u (x y : Int) : inR .u64 (bits .xor .u64 x y) := by
  refine ⟨fun h => (by cases h), fun _ => ?_⟩
  unfold bits
  simp only
  rw [IntKind.wrap_u64]
  omega

/-- What holds at each step. -/
structure Tq (w0 w : World) (N : Nat → Nat) (n1 bo bs bh : Nat) (vr vq : Value) (sz nx lo lt lh : Nat) : Prop where
  t : Tn w0 w N n1 (.slice (some ⟨bo, 0, none⟩) lo (lo + 8)) (.slice (some ⟨bs, 0, none⟩) lt (lt + 8)) (.slice (some ⟨bh, 0, none⟩) lh (lh + 40)) vr vq sz nx lo lt lh
  x0 : w.cell? ⟨w0.heap.size, 0, none⟩ = some (.slice (some ⟨bo, 0, none⟩) lo (lo + 8))
  x1 : w.cell? ⟨w0.heap.size, 1, none⟩ = some (.slice (some ⟨bs, 0, none⟩) lt (lt + 8))
  x2 : w.cell? ⟨w0.heap.size, 2, none⟩ = some (.slice (some ⟨bh, 0, none⟩) lh (lh + 40))
  s : n1 ≤ w.heap.size

theorem Tq.set {w0 w : World} {N : Nat → Nat} {n1 bo bs bh : Nat} {vr vq : Value} {sz nx lo lt lh b f : Nat} {k : IntKind} {z z' : Int} (h : Tq w0 w N n1 bo bs bh vr vq sz nx lo lt lh) (hc : w.cell? ⟨b, f, none⟩ = some (.int k z)) (hf : f < N b) (hb : n1 ≤ b) (hr : inR k z') : Tq w0 (w.setCell ⟨b, f, none⟩ (.int k z')) N n1 bo bs bh vr vq sz nx lo lt lh :=
  ⟨h.t.set hc hf hb h.s hr, cell_keep hc h.x0 (fun _ _ e => by cases e), cell_keep hc h.x1 (fun _ _ e => by cases e), cell_keep hc h.x2 (fun _ _ e => by cases e), by rw [World.size_setCell]; exact h.s⟩

theorem Tq.drew {w0 w : World} {N : Nat → Nat} {n1 bo bs bh : Nat} {vr vq : Value} {sz nx lo lt lh : Nat} (h : Tq w0 w N n1 bo bs bh vr vq sz nx lo lt lh) : Tq w0 w.drew N n1 bo bs bh vr vq sz nx lo lt lh :=
  ⟨h.t.grow (Below.refl _ _).drew h.s, h.x0, h.x1, h.x2, h.s⟩

theorem osum_take (l : List OL) (k : Nat) : osum (l.take k) ≤ osum l := by
  have h : osum (l.take k ++ l.drop k) = osum (l.take k) + osum (l.drop k) := by
    unfold osum
    rw [List.map_append, List.sum_append]
  rw [List.take_append_drop] at h
  omega

theorem Tq.ptrs {w0 w : World} {N : Nat → Nat} {n1 bo bs bh : Nat} {vr vq : Value} {sz nx lo lt lh i : Nat} (h : Tq w0 w N n1 bo bs bh vr vq sz nx lo lt lh) (hi : i < lo) : ∃ b n, w.cell? ⟨bo, i * 5 + 3, none⟩ = some (.slice (some ⟨b, 0, none⟩) n (n + 40)) ∧ (0 < n → ∃ z, w.cell? ⟨b, 0, none⟩ = some (.int .i64 z) ∧ w.frozen? ⟨b, 0, none⟩ = false ∧ 0 < N b ∧ n1 ≤ b) ∧ n ≤ sz := by
  obtain ⟨os, ts, g, h1, h2, h3, h4, h5, h6, h7⟩ := h.t.l
  obtain ⟨bo', go⟩ := h1.o
  have ebo := go.is
  rw [h5] at ebo
  cases ebo
  have hz : os[i]? = some (os[i]'(by omega)) := List.getElem?_eq_getElem _
  generalize os[i]'(by omega) = x at hz
  obtain ⟨hc, ⟨b, hp⟩, -⟩ := go.c i x hz
  have c3 : w.cell? ⟨bo, i * 5 + 3, none⟩ = some x.vp := hc 3 (by omega)
  rw [hp.is] at c3
  refine ⟨b, x.o.ps.length, c3, fun hn => ?_, ?_⟩
  · have hy : x.o.ps[0]? = some (x.o.ps[0]'hn) := List.getElem?_eq_getElem hn
    exact ⟨_, hp.c 0 _ hy, hp.fr 0, by rw [hp.n]; exact hn, hp.lo⟩
  · have h8 := osum_snoc hz
    have h9 : osum (os.take (i + 1)) ≤ osum os := osum_take os (i + 1)
    unfold gsz at h3
    omega

theorem Tq.raws {w0 w : World} {N : Nat → Nat} {n1 bo bs bh : Nat} {vr vq : Value} {sz nx lo lt lh i : Nat} (h : Tq w0 w N n1 bo bs bh vr vq sz nx lo lt lh) (hi : i < lo) : ∃ b n, w.cell? ⟨bo, i * 5 + 4, none⟩ = some (.slice (some ⟨b, 0, none⟩) n (n + 40)) ∧ (0 < n → ∃ z, w.cell? ⟨b, 0, none⟩ = some (.int .u64 z) ∧ w.frozen? ⟨b, 0, none⟩ = false ∧ 0 < N b ∧ n1 ≤ b) ∧ n ≤ sz := by
  obtain ⟨os, ts, g, h1, h2, h3, h4, h5, h6, h7⟩ := h.t.l
  obtain ⟨bo', go⟩ := h1.o
  have ebo := go.is
  rw [h5] at ebo
  cases ebo
  have hz : os[i]? = some (os[i]'(by omega)) := List.getElem?_eq_getElem _
  generalize os[i]'(by omega) = x at hz
  obtain ⟨hc, -, b, hp⟩ := go.c i x hz
  have c3 : w.cell? ⟨bo, i * 5 + 4, none⟩ = some x.vr := hc 4 (by omega)
  have hpi := hp.is
  rw [List.length_map] at hpi
  rw [hpi] at c3
  refine ⟨b, x.o.rs.length, c3, fun hn => ?_, ?_⟩
  · have hy : (x.o.rs.map Int.ofNat)[0]? = some ((x.o.rs.map Int.ofNat)[0]'(by rw [List.length_map]; exact hn)) := List.getElem?_eq_getElem _
    exact ⟨_, hp.c 0 _ hy, hp.fr 0, by rw [hp.n, List.length_map]; exact hn, hp.lo⟩
  · have h8 := osum_snoc hz
    have h9 : osum (os.take (i + 1)) ≤ osum os := osum_take os (i + 1)
    unfold gsz at h3
    omega

theorem Tq.slot {w0 w : World} {N : Nat → Nat} {n1 bo bs bh : Nat} {vr vq : Value} {sz nx lo lt lh : Nat} (h : Tq w0 w N n1 bo bs bh vr vq sz nx lo lt lh) (hi : 0 < lt) : ∃ b n, w.cell? ⟨bs, 0, none⟩ = some (.slice (some ⟨b, 0, none⟩) n (n + 8)) ∧ (0 < n → ∃ b' n', w.cell? ⟨b, 0, none⟩ = some (.slice (some ⟨b', 0, none⟩) n' (n' + 40)) ∧ (0 < n' → ∃ z, w.cell? ⟨b', 0, none⟩ = some (.int .i64 z) ∧ w.frozen? ⟨b', 0, none⟩ = false ∧ 0 < N b' ∧ n1 ≤ b')) := by
  obtain ⟨os, ts, g, h1, h2, h3, h4, h5, h6, h7⟩ := h.t.l
  obtain ⟨bs', gs⟩ := h1.s
  have ebs := gs.is
  rw [h6] at ebs
  cases ebs
  have hz : ts[0]? = some (ts[0]'(by omega)) := List.getElem?_eq_getElem _
  generalize ts[0]'(by omega) = x at hz
  obtain ⟨hc, b, hp⟩ := gs.c 0 x hz
  rw [hp.is] at hc
  refine ⟨b, x.2.length, hc, fun hn => ?_⟩
  have hy : x.2[0]? = some (x.2[0]'hn) := List.getElem?_eq_getElem hn
  generalize x.2[0]'hn = y at hy
  obtain ⟨hc', b', hp'⟩ := hp.c 0 y hy
  rw [hp'.is] at hc'
  refine ⟨b', y.2.length, hc', fun hn' => ?_⟩
  have hu : y.2[0]? = some (y.2[0]'hn') := List.getElem?_eq_getElem hn'
  exact ⟨_, hp'.c 0 _ hu, hp'.fr 0, by rw [hp'.n]; exact hn', hp'.lo⟩

theorem Tq.hand {w0 w : World} {N : Nat → Nat} {n1 bo bs bh : Nat} {vr vq : Value} {sz nx lo lt lh : Nat} (h : Tq w0 w N n1 bo bs bh vr vq sz nx lo lt lh) (hi : 0 < lh) : ∃ z, w.cell? ⟨bh, 0, none⟩ = some (.int .i64 z) ∧ w.frozen? ⟨bh, 0, none⟩ = false ∧ 0 < N bh ∧ n1 ≤ bh := by
  obtain ⟨os, ts, g, h1, h2, h3, h4, h5, h6, h7⟩ := h.t.l
  obtain ⟨bh', gh⟩ := h1.h
  have ebh := gh.is
  rw [h7] at ebh
  cases ebh
  have hu : g.hs[0]? = some (g.hs[0]'(by omega)) := List.getElem?_eq_getElem _
  exact ⟨_, gh.c 0 _ hu, gh.fr 0, by rw [gh.n]; omega, gh.lo⟩

end Go.Proofs.YtblbiikfipcbcaaGreatDoor

