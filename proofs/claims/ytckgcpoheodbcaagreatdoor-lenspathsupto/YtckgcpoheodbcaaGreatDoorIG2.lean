/-
  Images: a graph as it is read; which objects may be.
-/
import Derived.Test.YtckgcpoheodbcaaGreatDoorIG1
set_option linter.unusedVariables false
set_option maxRecDepth 20000
namespace Go.Proofs.YtckgcpoheodbcaaGreatDoor
open Go.RowKit Go.Shelf

/-- An object with the values of its lists. -/
structure OL where
  o : Im.Ob
  vp : Value
  vr : Value

abbrev ocs (s k t : Int) (vp vr : Value) : Array Value := #[.int .u64 s, .int .i64 k, .int .i64 t, vp, vr]
abbrev OL.cells (x : OL) : Array Value := ocs x.o.ser x.o.kind x.o.site x.vp x.vr

/-- v reads as objects. -/
def Ord (n0 : Nat) (w : World) (v : Value) (os : List OL) : Prop :=
  ∃ a cap, v = .slice a os.length cap ∧ ∀ (i : Nat) x, os[i]? = some x → Lrd n0 w x.vp .i64 x.o.ps ∧ Lrd n0 w x.vr .u64 (x.o.rs.map Int.ofNat) ∧ ∃ q off, a = some ⟨q, off, none⟩ ∧ q < n0 ∧ ∀ j, j < 5 → w.cell? ⟨q, off + i * 5 + j, none⟩ = x.cells[j]?

theorem Ord.below {n0 : Nat} {w w' : World} {v : Value} {os : List OL} (h : Ord n0 w v os) (l : Below n0 w w') : Ord n0 w' v os := by
  obtain ⟨a, cap, h1, h2⟩ := h
  refine ⟨a, cap, h1, fun i x hx => ?_⟩
  obtain ⟨h3, h4, q, off, h5, h6, h7⟩ := h2 i x hx
  exact ⟨h3.below l, h4.below l, q, off, h5, h6, fun j hj => (l.cell (p := ⟨q, off + i * 5 + j, none⟩) h6).trans (h7 j hj)⟩

/-- v reads as a list of lists. -/
def Frd (n0 : Nat) (w : World) (v : Value) (fs : List (Value × List Int)) : Prop :=
  ∃ a cap, v = .slice a fs.length cap ∧ ∀ (i : Nat) x, fs[i]? = some x → Lrd n0 w x.1 .i64 x.2 ∧ ∃ q off, a = some ⟨q, off, none⟩ ∧ q < n0 ∧ w.cell? ⟨q, off + i, none⟩ = some x.1

theorem Frd.below {n0 : Nat} {w w' : World} {v : Value} {fs : List (Value × List Int)} (h : Frd n0 w v fs) (l : Below n0 w w') : Frd n0 w' v fs := by
  obtain ⟨a, cap, h1, h2⟩ := h
  refine ⟨a, cap, h1, fun i x hx => ?_⟩
  obtain ⟨h3, q, off, h5, h6, h7⟩ := h2 i x hx
  exact ⟨h3.below l, q, off, h5, h6, (l.cell (p := ⟨q, off + i, none⟩) h6).trans h7⟩

/-- v reads as a list of lists of lists. -/
def Trd (n0 : Nat) (w : World) (v : Value) (ts : List (Value × List (Value × List Int))) : Prop :=
  ∃ a cap, v = .slice a ts.length cap ∧ ∀ (i : Nat) x, ts[i]? = some x → Frd n0 w x.1 x.2 ∧ ∃ q off, a = some ⟨q, off, none⟩ ∧ q < n0 ∧ w.cell? ⟨q, off + i, none⟩ = some x.1

theorem Trd.below {n0 : Nat} {w w' : World} {v : Value} {ts : List (Value × List (Value × List Int))} (h : Trd n0 w v ts) (l : Below n0 w w') : Trd n0 w' v ts := by
  obtain ⟨a, cap, h1, h2⟩ := h
  refine ⟨a, cap, h1, fun i x hx => ?_⟩
  obtain ⟨h3, q, off, h5, h6, h7⟩ := h2 i x hx
  exact ⟨h3.below l, q, off, h5, h6, (l.cell (p := ⟨q, off + i, none⟩) h6).trans h7⟩

/-- A graph's six cells read as a graph. -/
structure Grd (n0 : Nat) (w : World) (vo vs vh vr vq : Value) (os : List OL) (ts : List (Value × List (Value × List Int))) (g : Im.Gr) : Prop where
  ob : Ord n0 w vo os
  sl : Trd n0 w vs ts
  hs : Lrd n0 w vh .i64 g.hs
  rg : Lrd n0 w vr .i64 g.rg
  qu : Lrd n0 w vq .i64 g.qu
  eo : g.obs = os.map (·.o)
  es : g.slots = ts.map (fun t => t.2.map (·.2))
  nx : g.next < 18446744073709551616
  sr : ∀ o, o ∈ g.obs → o.ser < 18446744073709551616 ∧ InI o.kind ∧ InI o.site ∧ o.ps.length ≤ 4611686018427387904 ∧ o.rs.length ≤ 4611686018427387904

theorem Grd.below {n0 : Nat} {w w' : World} {vo vs vh vr vq : Value} {os : List OL} {ts : List (Value × List (Value × List Int))} {g : Im.Gr} (h : Grd n0 w vo vs vh vr vq os ts g) (l : Below n0 w w') : Grd n0 w' vo vs vh vr vq os ts g :=
  ⟨h.ob.below l, h.sl.below l, h.hs.below l, h.rg.below l, h.qu.below l, h.eo, h.es, h.nx, h.sr⟩

abbrev gcs (vo vs vh vr vq : Value) (n : Int) : Array Value := #[vo, vs, vh, vr, vq, .int .u64 n]

set_option maxHeartbeats 1000000 in
/-- The header of an object, as new. -/
theorem gHead_any (s k t : Int) (pa ra : Option Addr) (np pc nr rc : Nat) (w : World) :
    Calls Tryz.prog 113 #[.agg (ocs s k t (.slice pa np pc) (.slice ra nr rc))] w fun e w' => e = .returned (hv s k np nr 0 t false) ∧ Below w.heap.size w w' := by
  have l1 : Below w.heap.size w (w.alloc (.cells (ocs s k t (.slice pa np pc) (.slice ra nr rc)) 61)) := Below.alloc (Below.refl _ _) (Nat.le_refl _) _
  have hy := fun j => cell_of_row _ _ j _ _ _ (heap_alloc_new w (.cells (ocs s k t (.slice pa np pc) (.slice ra nr rc)) 61 (0, 0)))
  go_enter Tryz.func113, Tryz.ntmps113
  go_wp2
  have l2 := Below.alloc l1 l1.size (.cells (hcells s k np nr 0 t false) 112)
  have e1 : (w.alloc (.cells (ocs s k t (.slice pa np pc) (.slice ra nr rc)) 61)).heap.size = w.heap.size + 1 := by simp
  have hz := fun j => cell_of_row _ _ j _ _ _ (heap_alloc_new (w.alloc (.cells (ocs s k t (.slice pa np pc) (.slice ra nr rc)) 61)) (.cells (hcells s k np nr 0 t false) 112 (0, 0)))
  rw [e1] at hz
  generalize (w.alloc (.cells (ocs s k t (.slice pa np pc) (.slice ra nr rc)) 61)).alloc (.cells (hcells s k np nr 0 t false) 112) = W at *
  have x0 : W.cell? ⟨w.heap.size + 1, 0, none⟩ = some (.int .u64 s) := hz 0
  have x1 : W.cell? ⟨w.heap.size + 1, 1, none⟩ = some (.int .i64 k) := hz 1
  have x2 : W.cell? ⟨w.heap.size + 1, 2, none⟩ = some (.int .i64 np) := hz 2
  have x3 : W.cell? ⟨w.heap.size + 1, 3, none⟩ = some (.int .i64 nr) := hz 3
  have x4 : W.cell? ⟨w.heap.size + 1, 4, none⟩ = some (.int .i64 0) := hz 4
  have x5 : W.cell? ⟨w.heap.size + 1, 5, none⟩ = some (.int .i64 t) := hz 5
  have x6 : W.cell? ⟨w.heap.size + 1, 6, none⟩ = some (.bool false) := hz 6
  refine bodyPost_ret (by simp [results, Tryz.results113, go_sem, x0, x1, x2, x3, x4, x5, x6]; try rfl) rfl ?_
  exact ⟨rfl, l2⟩

/-- Has it a header? -/
def hd16 (o : Im.Ob) : Prop := flt o.kind o.ps.length o.rs.length 0 o.site = 0

/-- The last serial. -/
def lastS (l : List Im.Ob) : Nat := (l.getLast?.map (·.ser)).getD 0

theorem lastS_snoc (l : List Im.Ob) (o : Im.Ob) : lastS (l ++ [o]) = o.ser := by simp [lastS]

theorem rise_snoc : ∀ (l : List Im.Ob) (n : Nat) (o : Im.Ob), Im.Rise n (l ++ [o]) ↔ Im.Rise n l ∧ (l.getLast?.map (·.ser)).getD n < o.ser := by
  intro l
  induction l with
  | nil => intro n o; simp [Im.Rise]
  | cons x r ih =>
    intro n o
    simp only [List.cons_append, Im.Rise, ih]
    cases r with
    | nil => simp [and_assoc]
    | cons y r => rw [List.getLast?_cons_cons]; cases h : (y :: r).getLast? with
      | none => simp at h
      | some z => simp [and_assoc]

/-- What objectsMayBe asks. -/
structure OM (g : Im.Gr) : Prop where
  rise : Im.Rise 0 g.obs
  head : ∀ o, o ∈ g.obs → hd16 o
  ptrs : ∀ o, o ∈ g.obs → allB 0 g.obs.length o.ps
  low : lastS g.obs < g.next
  nx : g.next ≤ 4611686018427387905

end Go.Proofs.YtckgcpoheodbcaaGreatDoor
