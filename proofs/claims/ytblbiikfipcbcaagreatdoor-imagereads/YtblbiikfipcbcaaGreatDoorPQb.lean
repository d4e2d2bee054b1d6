import Derived.Test.YtblbiikfipcbcaaGreatDoorIQ5
import Derived.Test.YtblbiikfipcbcaaGreatDoorPRk
/-
  Images, the document's reader: what is kept while a graph is read.
-/
set_option linter.unusedVariables false
set_option maxRecDepth 20000
namespace Go.Proofs.YtblbiikfipcbcaaGreatDoor
open Go.RowKit Go.Shelf

theorem lessV_zero (l : List Nat) : lessV 0 l = l.map fun n : Nat => Value.int .i64 (n : Int) := by simp [lessV]

/-- A fault of a text that was not yet begun. -/
theorem tfault_raw {w : World} {n0 T : Nat} {v : Value} {bs : List Nat} (hb : w.heap[T]? = some (.cells #[v, .int .i64 4, .int .i64 0, .int .i64 0] 52 (0, 0))) (hl : Lrd n0 w v .u8 (bs.map Int.ofNat)) (hlo : n0 ≤ T) (hn : bs.length ≤ 1000000000000) (pl k : Nat) (hk : 160 ≤ k ∧ k ≤ 164) (hpl : pl ≤ bs.length) :
    Calls Tryz.prog 11 #[.pointer (some ⟨T, 0, none⟩), .int .i64 (pl : Int), .int .i64 (k : Int)] w fun e w' => e = .returned (.tuple #[]) ∧ Kg.Touch [T] w w' ∧ TErr w' n0 T v bs pl k := by
  have c2 := (Kg.heap_cell hb 2).trans (show _ = some (.int .i64 0) from rfl)
  have c3 := (Kg.heap_cell hb 3).trans (show _ = some (.int .i64 0) from rfl)
  have f2 := Kg.heap_frozen hb 2
  have f3 := Kg.heap_frozen hb 3
  go_enter Tryz.func11, Tryz.ntmps11
  go_wp2
  go_end0
  have s2 := Kg.heap_set hb 2 (.int .i64 (k : Int))
  have s3 := Kg.heap_set s2 3 (.int .i64 (pl : Int))
  have t : Kg.Touch [T] w ((w.setCell ⟨T, 2, none⟩ (.int .i64 (k : Int))).setCell ⟨T, 3, none⟩ (.int .i64 (pl : Int))) := (Kg.Touch.setCell _ _ _ (by simp)).trans (Kg.Touch.setCell _ _ _ (by simp))
  exact ⟨rfl, t, ⟨4, s3.trans rfl⟩, hl.below (t.below (by have := Kg.heap_lt hb; omega) (fun k hk => by simp at hk; omega)), hlo, hn, hk, hpl⟩

/-- Objects that were read, with a fault or not. -/
def Ed (w : World) (es : List OE) : Prop := ∀ y, y ∈ es → Vi y.ro.2.2.2.1 y.vp w ∧ Vu y.ro.2.2.2.2 y.vr w ∧ y.ser ≤ 4611686018427387904 ∧ y.ro.2.1 ≤ 4611686018427387905 ∧ y.ro.2.2.1 ≤ 4611686018427387905 ∧ y.ro.2.2.2.1.length ≤ 1000000000000 ∧ y.ro.2.2.2.2.length ≤ 1000000000000

theorem Ed.st {w1 w2 : World} {es : List OE} {G : List Nat} (h : Ed w1 es) (t : Kg.Touch G w1 w2) (hG : ∀ k, k ∈ G → ∀ cs t', w1.heap[k]? = some (.cells cs t' (0, 0)) → t' ≠ 3 ∧ t' ≠ 26) : Ed w2 es := fun y hy => by
  obtain ⟨h1, h2, h3⟩ := h y hy
  exact ⟨Vi.st _ _ _ _ _ h1 t (fun k hk cs t' hc => by simpa using (hG k hk cs t' hc).1), Vu.st _ _ _ _ _ h2 t (fun k hk cs t' hc => (hG k hk cs t' hc).2), h3⟩

theorem Ed.snoc {w : World} {es : List OE} {y : OE} (h : Ed w es) (hy : Vi y.ro.2.2.2.1 y.vp w ∧ Vu y.ro.2.2.2.2 y.vr w ∧ y.ser ≤ 4611686018427387904 ∧ y.ro.2.1 ≤ 4611686018427387905 ∧ y.ro.2.2.1 ≤ 4611686018427387905 ∧ y.ro.2.2.2.1.length ≤ 1000000000000 ∧ y.ro.2.2.2.2.length ≤ 1000000000000) : Ed w (es ++ [y]) := fun z hz => by
  rcases List.mem_append.1 hz with h9 | h9
  · exact h z h9
  · simp at h9
    rw [h9]
    exact hy

/-- The serials are the document's. -/
def Sers (es : List OE) : Prop := es.map (fun e => e.ol.o) = Im.rObs 0 (es.map (·.ro))
theorem Sers.nil : Sers [] := rfl
theorem Sers.snoc {es : List OE} {y : OE} (h : Sers es) (hy : y.ser = Im.rser (Im.rLast 0 (es.map (·.ro))) y.ro.1) : Sers (es ++ [y]) := by
  unfold Sers at h ⊢
  rw [List.map_append, List.map_append, h]
  show _ = Im.rObs 0 (es.map (·.ro) ++ [y.ro])
  rw [Im.rObs_snoc, ← hy]
  rfl

theorem rLast_le : ∀ (l : List Im.RO) (last : Nat), last ≤ 4611686018427387904 → Im.rLast last l ≤ 4611686018427387904
  | [], _, h => h
  | x :: r, last, _ => rLast_le r _ (Im.rser_le _ _)

theorem flatE_snoc (es : List OE) (y : OE) : flatE (es ++ [y]) = flatE es ++ y.cells := by simp [flatE]

theorem cells5_of (w : World) (a : Array Value) (t : TypeId) : ∀ j u, a.toList[j]? = some u → (w.alloc (.cells a t)).cell? ((⟨w.heap.size, 0, none⟩ : Addr).add j) = some u := by
  intro j u hj
  rw [Addr.add_lit, Nat.zero_add, Kg.heap_cell (heap_alloc_new w (.cells a t (0, 0))) j, ← Array.getElem?_toList]
  exact hj

theorem Txt.ty {w : World} {n0 T : Nat} {v : Value} {bs : List Nat} {st : Except (Nat × Nat) Nat} (h : Txt w n0 T v bs st) : ∀ cs t', w.heap[T]? = some (.cells cs t' (0, 0)) → t' = 52 := fun cs t' hc => by
  rcases st with ⟨pl, k⟩ | p
  · obtain ⟨a, hb⟩ := TErr.b h
    rw [hb] at hc
    cases hc
    rfl
  · rw [TOk.b h] at hc
    cases hc
    rfl

/-- The reader's own blocks: what it answers (A), the graph that it reads into (G). -/
structure Bs (w0 w : World) (A G : Nat) (gc : Array Value) : Prop where
  b : Below A w0 w
  ra : w.heap[A]? = some (.cells (gcs (.slice none 0 0) (.slice none 0 0) (.slice none 0 0) (.slice none 0 0) (.slice none 0 0) 0) 28 (0, 0))
  gb : w.heap[G]? = some (.cells gc 28 (0, 0))
  lt : A < G

theorem Bs.touch {w0 w w' : World} {A G : Nat} {gc : Array Value} {F : List Nat} (h : Bs w0 w A G gc) (t : Kg.Touch F w w') (hF : ∀ k, k ∈ F → A ≤ k ∧ k ≠ A ∧ k ≠ G) : Bs w0 w' A G gc :=
  ⟨h.b.trans (t.below (Nat.le_of_lt (Kg.heap_lt h.ra)) (fun k hk => (hF k hk).1)), (t.block _ (Kg.heap_lt h.ra) (fun hk => (hF A hk).2.1 rfl)).trans h.ra, (t.block _ (Kg.heap_lt h.gb) (fun hk => (hF G hk).2.2 rfl)).trans h.gb, h.lt⟩

theorem Bs.set {w0 w : World} {A G : Nat} {gc : Array Value} (h : Bs w0 w A G gc) (j : Nat) (u : Value) : Bs w0 (w.setCell ⟨G, j, none⟩ u) A G (gc.setIfInBounds j u) := by
  have t : Kg.Touch [G] w (w.setCell ⟨G, j, none⟩ u) := Kg.Touch.setCell _ _ _ (by simp)
  have hl := h.lt
  exact ⟨h.b.trans (t.below (Nat.le_of_lt (Kg.heap_lt h.ra)) (fun k hk => by simp at hk; omega)), (t.block _ (Kg.heap_lt h.ra) (by simp; omega)).trans h.ra, Kg.heap_set h.gb j u, h.lt⟩

theorem Bs.ty {w0 w : World} {A G : Nat} {gc : Array Value} (h : Bs w0 w A G gc) : ∀ cs t', w.heap[G]? = some (.cells cs t' (0, 0)) → t' = 28 := fun cs t' hc => by
  rw [h.gb] at hc
  cases hc
  rfl

/-- A row of any kind keeps, if no block of its kind is written. -/
theorem row_kty {w1 w2 : World} {b e sz n : Nat} {u : Value} {xs : List Value} {F : List Nat} (h : w1.ownsRow b e sz u n xs) (t : Kg.Touch F w1 w2) (hF : ∀ k, k ∈ F → ∀ cs t', w1.heap[k]? = some (.cells cs t' (0, 0)) → t' ≠ e) : w2.ownsRow b e sz u n xs := by
  refine Kg.row_keep2 h t (fun k hk hm => ?_)
  rcases h.2 with ⟨h1, _⟩ | ⟨g, cp, cu, e1, _, hg, _⟩
  · rw [h1] at hk; cases hk
  · rw [e1] at hk
    cases hk
    exact hF _ hm _ _ hg rfl

/-- The type of a row's block. -/
theorem row_type {w : World} {b e sz n k : Nat} {u : Value} {xs : List Value} (h : w.ownsRow b e sz u n xs) (hk : u.ownBlock = some k) : ∀ cs t', w.heap[k]? = some (.cells cs t' (0, 0)) → t' = e := fun cs t' hc => by
  rcases h.2 with ⟨h1, _⟩ | ⟨g, cp, cu, e1, _, hg, _⟩
  · rw [h1] at hk; cases hk
  · rw [e1] at hk
    cases hk
    rw [hg] at hc
    cases hc
    rfl

/-- The objects that were read, in memory; x: what the parser said of so many. -/
structure Os (w0 w : World) (A G : Nat) (v : Value) (bs : List Nat) (nx : Nat) (x : Except (Nat × Nat) (List Im.RO × Nat)) (es : List OE) (u : Value) : Prop where
  s : Bs w0 w A G (gcs u (.slice none 0 0) (.slice none 0 0) (.slice none 0 0) (.slice none 0 0) nx)
  r : w.ownsRow A 58 5 u es.length (flatE es)
  d : Ed w es
  e : Sers es
  t : Txt w A (A + 1) v bs (Im.pos x)
  q : ∀ z q, x = .ok (z, q) → es.map (·.ro) = z

/-- The text's block is no row's. -/
theorem txt_apart {w : World} {n0 T b e sz n k : Nat} {v u : Value} {bs : List Nat} {st : Except (Nat × Nat) Nat} {xs : List Value} (h : Txt w n0 T v bs st) (r : w.ownsRow b e sz u n xs) (he : e ≠ 52) (hk : k ∈ u.ownBlock.toList) : k ≠ T := fun h9 => by
  subst h9
  rw [Option.mem_toList] at hk
  rcases st with ⟨pl, c⟩ | p
  · obtain ⟨a, hb⟩ := TErr.b h
    exact he (row_type r hk _ _ hb).symm
  · exact he (row_type r hk _ _ (TOk.b h)).symm

/-- All objects were read, or there was a fault. -/
theorem os_done {w0 w : World} {A G nx N i : Nat} {v u : Value} {bs : List Nat} {es : List OE} {s : Except (Nat × Nat) Nat} {xm : Except (Nat × Nat) (Nat × Nat)} (hx : Im.stp (Im.many bs) s = xm) (hq : (∀ z q, xm = .ok (z, q) → N = z) ∧ ((∃ e, xm = .error e) → N = 0)) (hi : i ≤ N) (hd : i = N ∨ ∃ e, Im.pos (Im.stp (Im.rep (Im.roP bs) i) (Im.pos xm)) = .error e) (h : Os w0 w A G v bs nx (Im.stp (Im.rep (Im.roP bs) i) (Im.pos xm)) es u) : Os w0 w A G v bs nx (Im.stp (Im.listP bs (Im.roP bs)) s) es u := by
  subst hx
  obtain ⟨d1, d2⟩ := Im.stp_done hq.1 hq.2 hi hd
  exact ⟨h.s, h.r, h.d, h.e, by rw [d1]; exact h.t, fun z q hz => h.q z q (d2 z q hz)⟩

/-- The reader's own blocks are no row's. -/
theorem Bs.apart {w0 w : World} {A G b e sz n k : Nat} {gc : Array Value} {u : Value} {xs : List Value} (h : Bs w0 w A G gc) (r : w.ownsRow b e sz u n xs) (he : e ≠ 28) (hb : A ≤ b) (hk : k ∈ u.ownBlock.toList) : A ≤ k ∧ k ≠ A ∧ k ≠ G := by
  rw [Option.mem_toList] at hk
  refine ⟨Nat.le_trans hb (r.lt k hk).1, fun h9 => ?_, fun h9 => ?_⟩
  · subst h9
    exact he (row_type r hk _ _ h.ra).symm
  · subst h9
    exact he (row_type r hk _ _ h.gb).symm

/-- Objects and slots that were read. -/
structure Sb (w0 w : World) (A G nx : Nat) (es : List OE) (u : Value) (ts : List (List (List Nat))) (us : Value) (vs : List Value) : Prop where
  s : Bs w0 w A G (gcs u us (.slice none 0 0) (.slice none 0 0) (.slice none 0 0) nx)
  r : w.ownsRow A 58 5 u es.length (flatE es)
  d : Ed w es
  l : vs.length = ts.length
  y : w.ownsRow A 33 1 us ts.length vs
  z : ∀ (j : Nat) x y, ts[j]? = some x → vs[j]? = some y → Vf x y w

theorem Sb.touch {w0 w w' : World} {A G nx : Nat} {es : List OE} {u us : Value} {ts : List (List (List Nat))} {vs : List Value} {F : List Nat} (h : Sb w0 w A G nx es u ts us vs) (t : Kg.Touch F w w') (hF : ∀ k, k ∈ F → A ≤ k ∧ k ≠ A ∧ k ≠ G) (hT : ∀ k, k ∈ F → ∀ cs t', w.heap[k]? = some (.cells cs t' (0, 0)) → t' ∉ [3, 26, 58, 25, 33]) : Sb w0 w' A G nx es u ts us vs :=
  ⟨h.s.touch t hF, row_kty h.r t (fun k hk cs t' hc e => hT k hk cs t' hc (by simp [e])), h.d.st t (fun k hk cs t' hc => ⟨fun e => hT k hk cs t' hc (by simp [e]), fun e => hT k hk cs t' hc (by simp [e])⟩), h.l, row_kty h.y t (fun k hk cs t' hc e => hT k hk cs t' hc (by simp [e])), fun j x y hx hy => Vf.st _ _ _ _ _ (h.z j x y hx hy) t (fun k hk cs t' hc e => hT k hk cs t' hc (by simp at e; rcases e with e | e <;> simp [e]))⟩

/-- A thread's frames are laid behind the others. -/
theorem Sb.push {w0 w w9 : World} {A G nx : Nat} {es : List OE} {u us u9 y : Value} {ts : List (List (List Nat))} {vs : List Value} {x : List (List Nat)} (h : Sb w0 w A G nx es u ts us vs) (hy : Vf x y w) (t9 : Kg.Touch us.ownBlock.toList w w9) (ho : w9.ownsRow A 33 1 u9 (ts.length + 1) (vs ++ [y])) : Sb w0 (w9.setCell ⟨G, 1, none⟩ u9) A G nx es u (ts ++ [x]) u9 (vs ++ [y]) := by
  have hty : ∀ k, k ∈ us.ownBlock.toList → ∀ cs t', w.heap[k]? = some (.cells cs t' (0, 0)) → t' = 33 := fun k hk cs t' hc => by rw [Option.mem_toList] at hk; exact row_type h.y hk cs t' hc
  have s9 := h.s.touch t9 (fun k hk => h.s.apart h.y (by decide) (Nat.le_refl _) hk)
  have tS : Kg.Touch [G] w9 (w9.setCell ⟨G, 1, none⟩ u9) := Kg.Touch.setCell _ _ _ (by simp)
  have htS : ∀ k, k ∈ [G] → ∀ cs t', w9.heap[k]? = some (.cells cs t' (0, 0)) → t' = 28 := fun k hk cs t' hc => by simp at hk; subst hk; exact s9.ty cs t' hc
  have vf : ∀ a b, Vf a b w → Vf a b (w9.setCell ⟨G, 1, none⟩ u9) := fun a b hab => Vf.st _ _ _ _ _ (Vf.st _ _ _ _ _ hab t9 (fun k hk cs t' hc => by rw [hty k hk cs t' hc]; decide)) tS (fun k hk cs t' hc => by rw [htS k hk cs t' hc]; decide)
  refine ⟨s9.set 1 u9, row_kty (row_kty h.r t9 (fun k hk cs t' hc => by rw [hty k hk cs t' hc]; decide)) tS (fun k hk cs t' hc => by rw [htS k hk cs t' hc]; decide), (h.d.st t9 (fun k hk cs t' hc => by rw [hty k hk cs t' hc]; decide)).st tS (fun k hk cs t' hc => by rw [htS k hk cs t' hc]; decide), by simp [h.l], ?_, fun j a b ha hb => ?_⟩
  · refine row_kty ?_ tS (fun k hk cs t' hc => by rw [htS k hk cs t' hc]; decide)
    rw [List.length_append]
    exact ho
  · by_cases hj : j < ts.length
    · rw [List.getElem?_append_left hj] at ha
      rw [List.getElem?_append_left (by rw [h.l]; exact hj)] at hb
      exact vf _ _ (h.z j a b ha hb)
    · have hj2 : j = ts.length := by
        have := (List.getElem?_eq_some_iff.1 ha).1
        simp at this
        omega
      subst hj2
      rw [List.getElem?_append_right (Nat.le_refl _), Nat.sub_self] at ha
      rw [← h.l, List.getElem?_append_right (Nat.le_refl _), Nat.sub_self] at hb
      cases ha
      cases hb
      exact vf _ _ hy

/-- Frames in a row of their own, from block b on. -/
def Fb (b : Nat) (fs : List (List Nat)) (y : Value) (w : World) : Prop := ∃ ys, ys.length = fs.length ∧ w.ownsRow b 25 1 y fs.length ys ∧ ∀ (j : Nat) x z, fs[j]? = some x → ys[j]? = some z → Vi x z w

theorem Fb.vf {b : Nat} {fs : List (List Nat)} {y : Value} {w : World} (h : Fb b fs y w) : Vf fs y w := by
  obtain ⟨ys, h1, h2, h3⟩ := h
  exact ⟨ys, h1, Kg.row_base h2 (Nat.zero_le _), h3⟩

theorem Fb.st {b : Nat} {fs : List (List Nat)} {y : Value} {w1 w2 : World} {F : List Nat} (h : Fb b fs y w1) (t : Kg.Touch F w1 w2) (hT : ∀ k, k ∈ F → ∀ cs t', w1.heap[k]? = some (.cells cs t' (0, 0)) → t' ∉ [3, 25]) : Fb b fs y w2 := by
  obtain ⟨ys, h1, h2, h3⟩ := h
  exact ⟨ys, h1, row_kty h2 t (fun k hk cs t' hc e => hT k hk cs t' hc (by simp [e])), fun j a z ha hz => Vi.st a z w1 w2 F (h3 j a z ha hz) t (fun k hk cs t' hc e => hT k hk cs t' hc (by simp at e; simp [e]))⟩

theorem Fb.sl {b : Nat} {fs : List (List Nat)} {y : Value} {w : World} (h : Fb b fs y w) : ∃ a c, y = .slice a fs.length c := by
  obtain ⟨ys, h1, h2, h3⟩ := h
  exact own_slI h2

/-- A frame is laid behind the others. -/
theorem Fb.push {b : Nat} {fs : List (List Nat)} {ys : List Value} {y y9 z : Value} {x : List Nat} {w w9 : World} (h1 : ys.length = fs.length) (h2 : w.ownsRow b 25 1 y fs.length ys) (h3 : ∀ (j : Nat) x z, fs[j]? = some x → ys[j]? = some z → Vi x z w) (hz : Vi x z w) (t9 : Kg.Touch y.ownBlock.toList w w9) (ho : w9.ownsRow b 25 1 y9 (fs.length + 1) (ys ++ [z])) : Fb b (fs ++ [x]) y9 w9 := by
  have hty : ∀ k, k ∈ y.ownBlock.toList → ∀ cs t', w.heap[k]? = some (.cells cs t' (0, 0)) → t' = 25 := fun k hk cs t' hc => by rw [Option.mem_toList] at hk; exact row_type h2 hk cs t' hc
  have vi : ∀ a c, Vi a c w → Vi a c w9 := fun a c hab => Vi.st _ _ _ _ _ hab t9 (fun k hk cs t' hc => by rw [hty k hk cs t' hc]; decide)
  refine ⟨ys ++ [z], by simp [h1], by rw [List.length_append]; exact ho, fun j a c ha hc => ?_⟩
  by_cases hj : j < fs.length
  · rw [List.getElem?_append_left hj] at ha
    rw [List.getElem?_append_left (by rw [h1]; exact hj)] at hc
    exact vi _ _ (h3 j a c ha hc)
  · have hj2 : j = fs.length := by
      have := (List.getElem?_eq_some_iff.1 ha).1
      simp at this
      omega
    subst hj2
    rw [List.getElem?_append_right (Nat.le_refl _), Nat.sub_self] at ha
    rw [← h1, List.getElem?_append_right (Nat.le_refl _), Nat.sub_self] at hc
    cases ha
    cases hc
    exact vi _ _ hz

end Go.Proofs.YtblbiikfipcbcaaGreatDoor

/-
  Images, the document's reader: all that was read, in memory.
-/
set_option linter.unusedVariables false
set_option maxRecDepth 20000
namespace Go.Proofs.YtblbiikfipcbcaaGreatDoor
open Go.RowKit Go.Shelf

theorem Ed.ord {w : World} {b : Nat} {u : Value} {es : List OE} (ho : w.ownsRow b 58 5 u es.length (flatE es)) (hd : Ed w es) : Ord w.heap.size w u (es.map OE.ol) := by
  obtain ⟨a, cap, h1, h2, h3⟩ := row_at (Kg.row_base ho (Nat.zero_le _)) (by decide)
  refine ⟨a, cap, by rw [List.length_map]; exact h1, fun i x hx => ?_⟩
  rw [List.getElem?_map] at hx
  obtain ⟨y, hy, rfl⟩ := Option.map_eq_some_iff.1 hx
  obtain ⟨e3, e4, -⟩ := hd y (List.mem_of_getElem? hy)
  refine ⟨e3.lrd, e4.lrd, ?_⟩
  have hc : ∀ j, j < 5 → ∃ q, a = some ⟨q, 0, none⟩ ∧ q < w.heap.size ∧ w.cell? ⟨q, i * 5 + j, none⟩ = y.ol.cells[j]? := fun j hj => by
    have hf := flatE_at es i j y hy hj
    have e5 : y.cells[j]? = y.ol.cells[j]? := by
      rcases j with _ | _ | _ | _ | _ | j
      · rfl
      · rfl
      · rfl
      · rfl
      · rfl
      · omega
    have hs : ∃ z, y.cells[j]? = some z := ⟨_, List.getElem?_eq_getElem (by simpa using hj)⟩
    obtain ⟨z, hz⟩ := hs
    obtain ⟨q, k1, k2, k3⟩ := h3 (i * 5 + j) z (hf.trans hz)
    exact ⟨q, k1, k2, by rw [k3, ← e5, hz]⟩
  obtain ⟨q, k1, k2, k3⟩ := hc 0 (by decide)
  refine ⟨q, 0, k1, k2, fun j hj => ?_⟩
  obtain ⟨q', k1', -, k3'⟩ := hc j hj
  rw [k1] at k1'
  cases k1'
  rw [Nat.zero_add]
  exact k3'

/-- All that was read. -/
structure Sf (w0 w : World) (A G nx : Nat) (es : List OE) (u : Value) (ts : List (List (List Nat))) (us : Value) (hs : List Nat) (vh : Value) (qs : List Nat) (vq : Value) (rg : List Int) (vr : Value) : Prop where
  s : Bs w0 w A G (gcs u us vh vr vq nx)
  r : w.ownsRow A 58 5 u es.length (flatE es)
  d : Ed w es
  t : Vt ts us w
  h : Vh hs vh w
  q : Vi qs vq w
  g : w.ownsRow 0 3 1 vr rg.length (Kg.ints rg)

section
variable {w0 w w' : World} {A G nx : Nat} {es : List OE} {u us vh vq vr : Value} {ts : List (List (List Nat))} {hs qs : List Nat} {rg : List Int}

theorem Sf.mem {F : List Nat} {gc : Array Value} (h : Sf w0 w A G nx es u ts us hs vh qs vq rg vr) (t : Kg.Touch F w w') (hT : ∀ k, k ∈ F → ∀ cs t', w.heap[k]? = some (.cells cs t' (0, 0)) → t' ∉ [3, 26, 58, 25, 33]) : w'.ownsRow A 58 5 u es.length (flatE es) ∧ Ed w' es ∧ Vt ts us w' ∧ Vh hs vh w' ∧ Vi qs vq w' ∧ w'.ownsRow 0 3 1 vr rg.length (Kg.ints rg) := by
  have hi : ∀ k, k ∈ F → ∀ cs t', w.heap[k]? = some (.cells cs t' (0, 0)) → t' ≠ 3 := fun k hk cs t' hc e => hT k hk cs t' hc (by simp [e])
  exact ⟨row_kty h.r t (fun k hk cs t' hc e => hT k hk cs t' hc (by simp [e])), h.d.st t (fun k hk cs t' hc => ⟨hi k hk cs t' hc, fun e => hT k hk cs t' hc (by simp [e])⟩), h.t.st t (fun k hk cs t' hc e => hT k hk cs t' hc (by simp at e; rcases e with e | e | e <;> simp [e])), row_st h.h t hi, row_st h.q t hi, row_st h.g t hi⟩

theorem Sf.touch {F : List Nat} (h : Sf w0 w A G nx es u ts us hs vh qs vq rg vr) (t : Kg.Touch F w w') (hF : ∀ k, k ∈ F → A ≤ k ∧ k ≠ A ∧ k ≠ G) (hT : ∀ k, k ∈ F → ∀ cs t', w.heap[k]? = some (.cells cs t' (0, 0)) → t' ∉ [3, 26, 58, 25, 33]) : Sf w0 w' A G nx es u ts us hs vh qs vq rg vr := by
  obtain ⟨m1, m2, m3, m4, m5, m6⟩ := h.mem (gc := #[]) t hT
  exact ⟨h.s.touch t hF, m1, m2, m3, m4, m5, m6⟩

theorem Sf.txt {n0 : Nat} {v : Value} {bs : List Nat} {st : Except (Nat × Nat) Nat} (h : Sf w0 w A G nx es u ts us hs vh qs vq rg vr) (hx : Txt w n0 (A + 1) v bs st) (hG : A + 1 < G) (t : Kg.Touch [A + 1] w w') : Sf w0 w' A G nx es u ts us hs vh qs vq rg vr :=
  h.touch t (fun k hk => by simp at hk; omega) (fun k hk cs t' hc => by simp at hk; subst hk; rw [hx.ty cs t' hc]; decide)

theorem Sf.put (h : Sf w0 w A G nx es u ts us hs vh qs vq rg vr) (j : Nat) (x : Value) : (w.setCell ⟨G, j, none⟩ x).ownsRow A 58 5 u es.length (flatE es) ∧ Ed (w.setCell ⟨G, j, none⟩ x) es ∧ Vt ts us (w.setCell ⟨G, j, none⟩ x) ∧ Vh hs vh (w.setCell ⟨G, j, none⟩ x) ∧ Vi qs vq (w.setCell ⟨G, j, none⟩ x) ∧ (w.setCell ⟨G, j, none⟩ x).ownsRow 0 3 1 vr rg.length (Kg.ints rg) ∧ (∀ e sz n b y xs, e ≠ 28 → w.ownsRow b e sz y n xs → (w.setCell ⟨G, j, none⟩ x).ownsRow b e sz y n xs) := by
  have t : Kg.Touch [G] w (w.setCell ⟨G, j, none⟩ x) := Kg.Touch.setCell _ _ _ (by simp)
  have ht : ∀ k, k ∈ [G] → ∀ cs t', w.heap[k]? = some (.cells cs t' (0, 0)) → t' = 28 := fun k hk cs t' hc => by simp at hk; subst hk; exact h.s.ty cs t' hc
  obtain ⟨m1, m2, m3, m4, m5, m6⟩ := h.mem (gc := #[]) t (fun k hk cs t' hc => by rw [ht k hk cs t' hc]; decide)
  exact ⟨m1, m2, m3, m4, m5, m6, fun e sz n b y xs he hr => row_kty hr t (fun k hk cs t' hc => by rw [ht k hk cs t' hc]; exact he.symm)⟩

/-- The graph that was read. -/
def rGr (nx : Nat) (es : List OE) (ts : List (List (List Nat))) (hs qs : List Nat) (rg : List Int) : Im.Gr := ⟨nx, es.map (fun e => e.ol.o), ts.map (fun t => t.map (fun f => f.map Int.ofNat)), hs.map (fun k : Nat => (k : Int) - 1), rg, qs.map Int.ofNat⟩

theorem Sf.grd (h : Sf w0 w A G nx es u ts us hs vh qs vq rg vr) (hnx : nx ≤ 4611686018427387905) : ∃ ls, Grd w.heap.size w u us vh vr vq (es.map OE.ol) ls (rGr nx es ts hs qs rg) ∧ ls.map (fun t => t.2.map (·.2)) = ts.map (fun t => t.map (fun f => f.map Int.ofNat)) := by
  obtain ⟨ls, t1, t2⟩ := h.t.trd
  refine ⟨ls, ⟨Ed.ord h.r h.d, t1, h.h.lrd, Lrd.of_row h.g, h.q.lrd, by simp [rGr], t2.symm, by show nx < _; omega, fun o ho => ?_⟩, t2⟩
  obtain ⟨y, hy, rfl⟩ := List.mem_map.1 (show o ∈ es.map (fun e => e.ol.o) from ho)
  obtain ⟨-, -, k1, k2, k3, k4, k5⟩ := h.d y hy
  refine ⟨by show y.ser < _; omega, ?_, ?_, ?_, ?_⟩
  · show InI (y.ro.2.1 : Int)
    unfold InI
    omega
  · show InI (y.ro.2.2.1 : Int)
    unfold InI
    omega
  · show (y.ro.2.2.2.1.map Int.ofNat).length ≤ _
    rw [List.length_map]
    omega
  · show y.ro.2.2.2.2.length ≤ _
    omega
end

theorem Sb.sf {w0 w : World} {A G nx : Nat} {es : List OE} {u us : Value} {ts : List (List (List Nat))} {vs : List Value} (h : Sb w0 w A G nx es u ts us vs) : Sf w0 w A G nx es u ts us [] (.slice none 0 0) [] (.slice none 0 0) [] (.slice none 0 0) :=
  ⟨h.s, h.r, h.d, ⟨vs, h.l, Kg.row_base h.y (Nat.zero_le _), h.z⟩, World.ownsRow_nil _ _ _ _, World.ownsRow_nil _ _ _ _, World.ownsRow_nil _ _ _ _⟩

end Go.Proofs.YtblbiikfipcbcaaGreatDoor

