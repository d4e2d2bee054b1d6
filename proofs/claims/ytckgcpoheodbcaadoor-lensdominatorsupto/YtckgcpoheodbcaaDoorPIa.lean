import Derived.Test.YtckgcpoheodbcaaDoorPCa
import Derived.Test.YtckgcpoheodbcaaDoorPKm
import Derived.Test.YtckgcpoheodbcaaDoorPIp
import Derived.RangeFuncBox
import Derived.Shelf.Abstract
/-
  Images: lists of numbers as they are read; are all numbers of a list within bounds?
-/
set_option linter.unusedVariables false
set_option maxRecDepth 20000
namespace Go.Proofs.YtckgcpoheodbcaaDoor
open Go.RowKit Go.Shelf

def InI (x : Int) : Prop := -9223372036854775808 ≤ x ∧ x ≤ 9223372036854775807

/-- v reads as the numbers xs, in a block below n0. -/
def Lrd (n0 : Nat) (w : World) (v : Value) (k : IntKind) (xs : List Int) : Prop :=
  ∃ a cap, v = .slice a xs.length cap ∧ xs.length ≤ cap ∧ ∀ (f : Nat) z, xs[f]? = some z → ∃ q off, a = some ⟨q, off, none⟩ ∧ q < n0 ∧ w.cell? ⟨q, off + f, none⟩ = some (.int k z)

theorem Lrd.below {n0 : Nat} {w w' : World} {v : Value} {k : IntKind} {xs : List Int} (h : Lrd n0 w v k xs) (l : Below n0 w w') : Lrd n0 w' v k xs := by
  obtain ⟨a, cap, h1, h2, h3⟩ := h
  refine ⟨a, cap, h1, h2, fun f z hz => ?_⟩
  obtain ⟨q, off, h4, h5, h6⟩ := h3 f z hz
  exact ⟨q, off, h4, h5, (l.cell (p := ⟨q, off + f, none⟩) h5).trans h6⟩

theorem Lrd.mono {n0 n1 : Nat} {w : World} {v : Value} {k : IntKind} {xs : List Int} (h : Lrd n0 w v k xs) (l : n0 ≤ n1) : Lrd n1 w v k xs := by
  obtain ⟨a, cap, h1, h2, h3⟩ := h
  refine ⟨a, cap, h1, h2, fun f z hz => ?_⟩
  obtain ⟨q, off, h4, h5, h6⟩ := h3 f z hz
  exact ⟨q, off, h4, Nat.lt_of_lt_of_le h5 l, h6⟩

theorem row_at {w : World} {e size n : Nat} {v : Value} {xs : List Value} (h : w.ownsRow 0 e size v n xs) (hs : 0 < size) : ∃ a cap, v = .slice a n cap ∧ n ≤ cap ∧ ∀ (f : Nat) z, xs[f]? = some z → ∃ q, a = some ⟨q, 0, none⟩ ∧ q < w.heap.size ∧ w.cell? ⟨q, f, none⟩ = some z := by
  have hl := h.1
  rcases h.2 with ⟨rfl, rfl⟩ | ⟨g, cap, cur, rfl, hb, hg, hn, hc, hsz, ht⟩
  · exact ⟨none, 0, rfl, Nat.le_refl _, fun f z hz => by
      have := (List.getElem?_eq_some_iff.1 hz).1
      omega⟩
  · refine ⟨_, _, rfl, hn, fun f z hz => ⟨g, rfl, (Array.getElem?_eq_some_iff.1 hg).1, ?_⟩⟩
    have hf := (List.getElem?_eq_some_iff.1 hz).1
    rw [cell_of_row _ _ f _ _ _ hg, ← Array.getElem?_toList]
    rw [← ht, List.getElem?_take] at hz
    split at hz
    · exact hz
    · simp at hz

theorem Lrd.of_row {w : World} {e : Nat} {v : Value} {k : IntKind} {xs : List Int} (h : w.ownsRow 0 e 1 v xs.length (xs.map (Value.int k))) : Lrd w.heap.size w v k xs := by
  obtain ⟨a, cap, h1, h2, h3⟩ := row_at h (by decide)
  refine ⟨a, cap, h1, h2, fun f z hz => ?_⟩
  obtain ⟨q, h4, h5, h6⟩ := h3 f (.int k z) (by rw [List.getElem?_map, hz]; rfl)
  exact ⟨q, 0, h4, h5, by rw [Nat.zero_add]; exact h6⟩

/-- Within bounds. -/
def inB (lo hi z : Int) : Bool := decide (lo ≤ z) && decide (z ≤ hi)
/-- All of them. -/
def allB (lo hi : Int) (l : List Int) : Prop := ∀ z, z ∈ l → inB lo hi z = true

theorem within1_enters : ∀ args w, (callFunc 84 args).run Tryd.prog w = .ok (.enter 84 args) w := enters_of Tryd.func84 (by kernel_rfl) rfl

set_option maxHeartbeats 1000000 in
theorem within1_any (lo hi z : Int) (b1 b2 : Nat) (w : World) (h1 : w.cell? ⟨b1, 0, none⟩ = some (.int .i64 lo)) (h2 : w.cell? ⟨b2, 0, none⟩ = some (.int .i64 hi)) :
    Calls Tryd.prog 84 #[.int .i64 z, .pointer (some ⟨b1, 0, none⟩), .pointer (some ⟨b2, 0, none⟩)] w fun e w' => e = .returned (.bool (!inB lo hi z)) ∧ w' = w := by
  go_enter Tryd.func84, Tryd.ntmps84
  by_cases ha : z < lo
  · have e : (!inB lo hi z) = true := by simp [inB]; omega
    rw [e]
    go_wp2
    go_ret
    exact ⟨rfl, rfl⟩
  · by_cases hb : hi < z
    · have e : (!inB lo hi z) = true := by simp [inB]; omega
      rw [e]
      go_wp2
      go_ret
      exact ⟨rfl, rfl⟩
    · have e : (!inB lo hi z) = false := by simp [inB]; omega
      rw [e]
      go_wp2
      go_ret
      exact ⟨rfl, rfl⟩

set_option maxHeartbeats 2000000 in
/-- slices.IndexFunc over the closure: below 0, if all are within. -/
theorem indexF_any (lo hi : Int) (b1 b2 n0 : Nat) (v : Value) (l : List Int) (w : World) (hv : Lrd n0 w v .i64 l) (hn : n0 ≤ w.heap.size) (hl : l.length ≤ 4611686018427387904) (h1 : w.cell? ⟨b1, 0, none⟩ = some (.int .i64 lo)) (h2 : w.cell? ⟨b2, 0, none⟩ = some (.int .i64 hi)) :
    Calls Tryd.prog 68 #[v, .func (.func 84) #[] #[.pointer (some ⟨b1, 0, none⟩), .pointer (some ⟨b2, 0, none⟩)]] w fun e w' => ∃ r : Int, e = .returned (.int .i64 r) ∧ w' = w ∧ (0 ≤ r ↔ ¬ allB lo hi l) := by
  obtain ⟨a, cap, rfl, hcap, hc⟩ := hv
  have Hc : Hid (∀ (f : Nat) z, l[f]? = some z → ∃ q off, a = some ⟨q, off, none⟩ ∧ q < n0 ∧ w.cell? ⟨q, off + f, none⟩ = some (.int .i64 z)) := hc
  have hent := within1_enters
  clear hc
  go_enter Tryd.func68, Tryd.ntmps68
  go_wp2
  go_loopw [8] (fun v8 wr => ∃ k : Nat, k ≤ l.length ∧ v8 = .int .i64 k ∧ w = wr ∧ Hid (∀ z, z ∈ l.take k → inB lo hi z = true)) (fun v8 _ => l.length - (intOf v8).toNat)
  case atStart => exact ⟨0, Nat.zero_le _, rfl, rfl, (fun z hz => by simp at hz : ∀ z, z ∈ l.take 0 → inB lo hi z = true)⟩
  case round =>
    obtain ⟨k, hk, rfl, rfl, Hk⟩ := hrel
    by_cases hkl : k < l.length
    · have hz : l[k]? = some (l[k]'hkl) := List.getElem?_eq_getElem hkl
      generalize l[k]'hkl = z at hz
      obtain ⟨q, off, rfl, hq, ca⟩ := Hc.out k z hz
      have hcal := within1_any lo hi z b1 b2 w h1 h2
      have hkI : (k : Int) < (l.length : Int) := by omega
      have Hz : Hid (l[k]? = some z) := hz
      clear hz
      by_cases hin : inB lo hi z = true
      · have e : (!inB lo hi z) = false := by simp [hin]
        rw [e] at hcal
        have Hn : Hid (∀ y, y ∈ l.take (k + 1) → inB lo hi y = true) := fun y hy => by
          rw [List.take_add_one, Hz.out] at hy
          rcases List.mem_append.1 hy with h9 | h9
          · exact Hk.out y h9
          · simp at h9; rw [h9]; exact hin
        clear hin e
        go_wp2_with fail
        refine hcal.mono ?_
        rintro e w5 ⟨rfl, rfl⟩
        clear hcal
        go_wp2
        go_roundw
        case rel => exact ⟨k + 1, by omega, by go_num, trivial, Hn⟩
        case measure => simp [intOf]; omega
      · have e : (!inB lo hi z) = true := by simp [hin]
        rw [e] at hcal
        have Hf : Hid (¬ allB lo hi l) := fun h9 => hin (h9 z (List.mem_of_getElem? Hz.out))
        clear hin e
        go_wp2_with fail
        refine hcal.mono ?_
        rintro e w5 ⟨rfl, rfl⟩
        clear hcal
        go_wp2
        go_ret
        exact ⟨_, rfl, rfl, fun _ => Hf.out, fun _ => by omega⟩
    · have hki : ¬ (k : Int) < (l.length : Int) := by omega
      have hke : k = l.length := by omega
      have Ha : Hid (allB lo hi l) := by
        have h9 := Hk.out
        rw [hke, List.take_length] at h9
        exact h9
      clear Hk
      go_wp2
      go_ret
      exact ⟨-1, rfl, rfl, fun h9 => by omega, fun h9 => absurd Ha.out h9⟩

set_option maxHeartbeats 2000000 in
/-- allWithin. -/
theorem gWithin_any (lo hi : Int) (n0 : Nat) (v : Value) (l : List Int) (w : World) (hv : Lrd n0 w v .i64 l) (hn : n0 ≤ w.heap.size) (hl : l.length ≤ 4611686018427387904) :
    Calls Tryd.prog 72 #[v, .int .i64 lo, .int .i64 hi] w fun e w' => ∃ r : Bool, e = .returned (.bool r) ∧ Below w.heap.size w w' ∧ (r = true ↔ allB lo hi l) := by
  have l1 : Below w.heap.size w (w.alloc (.cells #[.int .i64 lo] 3)) := Below.alloc (Below.refl _ _) (Nat.le_refl _) _
  have l2 : Below w.heap.size w ((w.alloc (.cells #[.int .i64 lo] 3)).alloc (.cells #[.int .i64 hi] 3)) := Below.alloc l1 l1.size _
  have b1 : Boxed ((w.alloc (.cells #[.int .i64 lo] 3)).alloc (.cells #[.int .i64 hi] 3)) w.heap.size 3 (.int .i64 lo) := (Below.heap_alloc _ _ _ (by simp)).trans (Boxed.new w 3 _)
  have b2 : Boxed ((w.alloc (.cells #[.int .i64 lo] 3)).alloc (.cells #[.int .i64 hi] 3)) (w.heap.size + 1) 3 (.int .i64 hi) := by
    have := Boxed.new (w.alloc (.cells #[.int .i64 lo] 3)) 3 (.int .i64 hi)
    simpa using this
  have hf := indexF_any lo hi w.heap.size (w.heap.size + 1) n0 v l _ (hv.below (l2.mono hn)) (Nat.le_trans hn l2.size) hl b1.cell b2.cell
  obtain ⟨a, cap, rfl, -, -⟩ := hv
  have Hl2 : Hid (Below w.heap.size w ((w.alloc (.cells #[.int .i64 lo] 3)).alloc (.cells #[.int .i64 hi] 3))) := l2
  clear l1 b1 b2 l2
  go_enter Tryd.func72, Tryd.ntmps72
  go_wp2_with (first | (go_at_call 83; go_in))
  refine hf.mono ?_
  rintro e w5 ⟨r, rfl, rfl, hr⟩
  have Hr : Hid (0 ≤ r ↔ ¬ allB lo hi l) := hr
  clear hf hr
  go_wp2
  go_ret
  refine ⟨!decide (0 ≤ r), rfl, Hl2.out, ?_⟩
  by_cases h0 : 0 ≤ r
  · simp only [h0, decide_true, Bool.not_true, Bool.false_eq_true, false_iff]
    exact Hr.out.1 h0
  · simp only [h0, decide_false, Bool.not_false, true_iff]
    exact Classical.not_not.1 (fun h => h0 (Hr.out.2 h))

end Go.Proofs.YtckgcpoheodbcaaDoor

/-
  Images: a graph as it is read; which objects may be.
-/
set_option linter.unusedVariables false
set_option maxRecDepth 20000
namespace Go.Proofs.YtckgcpoheodbcaaDoor
open Go.RowKit Go.Shelf

/-- An object with the values of its lists. -/
structure OL where
  o : Im.Ob
  vp : Value
  vr : Value

abbrev ocs (s k t : Int) (vp vr : Value) : Array Value := #[.int .u64 s, .int .i64 k, .int .i64 t, vp, vr]
abbrev OL.cells (x : OL) : Array Value := ocs x.o.ser x.o.kind x.o.site x.vp x.vr

/-- v reads as objects. -/
def Ord (n0 : Nat) (w : World) (v : Value) (os : List OL) : Prop :=
  ∃ a cap, v = .slice a os.length cap ∧ ∀ (i : Nat) x, os[i]? = some x → Lrd n0 w x.vp .i64 x.o.ps ∧ Lrd n0 w x.vr .u64 (x.o.rs.map Int.ofNat) ∧ ∃ q off, a = some ⟨q, off, none⟩ ∧ q < n0 ∧ ∀ j, j < 5 → w.cell? ⟨q, off + i * 5 + j, none⟩ = x.cells[j]?

theorem Ord.below {n0 : Nat} {w w' : World} {v : Value} {os : List OL} (h : Ord n0 w v os) (l : Below n0 w w') : Ord n0 w' v os := by
  obtain ⟨a, cap, h1, h2⟩ := h
  refine ⟨a, cap, h1, fun i x hx => ?_⟩
  obtain ⟨h3, h4, q, off, h5, h6, h7⟩ := h2 i x hx
  exact ⟨h3.below l, h4.below l, q, off, h5, h6, fun j hj => (l.cell (p := ⟨q, off + i * 5 + j, none⟩) h6).trans (h7 j hj)⟩

/-- v reads as a list of lists. -/
def Frd (n0 : Nat) (w : World) (v : Value) (fs : List (Value × List Int)) : Prop :=
  ∃ a cap, v = .slice a fs.length cap ∧ ∀ (i : Nat) x, fs[i]? = some x → Lrd n0 w x.1 .i64 x.2 ∧ ∃ q off, a = some ⟨q, off, none⟩ ∧ q < n0 ∧ w.cell? ⟨q, off + i, none⟩ = some x.1

theorem Frd.below {n0 : Nat} {w w' : World} {v : Value} {fs : List (Value × List Int)} (h : Frd n0 w v fs) (l : Below n0 w w') : Frd n0 w' v fs := by
  obtain ⟨a, cap, h1, h2⟩ := h
  refine ⟨a, cap, h1, fun i x hx => ?_⟩
  obtain ⟨h3, q, off, h5, h6, h7⟩ := h2 i x hx
  exact ⟨h3.below l, q, off, h5, h6, (l.cell (p := ⟨q, off + i, none⟩) h6).trans h7⟩

/-- v reads as a list of lists of lists. -/
def Trd (n0 : Nat) (w : World) (v : Value) (ts : List (Value × List (Value × List Int))) : Prop :=
  ∃ a cap, v = .slice a ts.length cap ∧ ∀ (i : Nat) x, ts[i]? = some x → Frd n0 w x.1 x.2 ∧ ∃ q off, a = some ⟨q, off, none⟩ ∧ q < n0 ∧ w.cell? ⟨q, off + i, none⟩ = some x.1

theorem Trd.below {n0 : Nat} {w w' : World} {v : Value} {ts : List (Value × List (Value × List Int))} (h : Trd n0 w v ts) (l : Below n0 w w') : Trd n0 w' v ts := by
  obtain ⟨a, cap, h1, h2⟩ := h
  refine ⟨a, cap, h1, fun i x hx => ?_⟩
  obtain ⟨h3, q, off, h5, h6, h7⟩ := h2 i x hx
  exact ⟨h3.below l, q, off, h5, h6, (l.cell (p := ⟨q, off + i, none⟩) h6).trans h7⟩

/-- A graph's six cells read as a graph. -/
structure Grd (n0 : Nat) (w : World) (vo vs vh vr vq : Value) (os : List OL) (ts : List (Value × List (Value × List Int))) (g : Im.Gr) : Prop where
  ob : Ord n0 w vo os
  sl : Trd n0 w vs ts
  hs : Lrd n0 w vh .i64 g.hs
  rg : Lrd n0 w vr .i64 g.rg
  qu : Lrd n0 w vq .i64 g.qu
  eo : g.obs = os.map (·.o)
  es : g.slots = ts.map (fun t => t.2.map (·.2))
  nx : g.next < 18446744073709551616
  sr : ∀ o, o ∈ g.obs → o.ser < 18446744073709551616 ∧ InI o.kind ∧ InI o.site ∧ o.ps.length ≤ 4611686018427387904 ∧ o.rs.length ≤ 4611686018427387904

theorem Grd.below {n0 : Nat} {w w' : World} {vo vs vh vr vq : Value} {os : List OL} {ts : List (Value × List (Value × List Int))} {g : Im.Gr} (h : Grd n0 w vo vs vh vr vq os ts g) (l : Below n0 w w') : Grd n0 w' vo vs vh vr vq os ts g :=
  ⟨h.ob.below l, h.sl.below l, h.hs.below l, h.rg.below l, h.qu.below l, h.eo, h.es, h.nx, h.sr⟩

abbrev gcs (vo vs vh vr vq : Value) (n : Int) : Array Value := #[vo, vs, vh, vr, vq, .int .u64 n]

set_option maxHeartbeats 1000000 in
/-- The header of an object, as new. -/
theorem gHead_any (s k t : Int) (pa ra : Option Addr) (np pc nr rc : Nat) (w : World) :
    Calls Tryd.prog 71 #[.agg (ocs s k t (.slice pa np pc) (.slice ra nr rc))] w fun e w' => e = .returned (hv s k np nr 0 t false) ∧ Below w.heap.size w w' := by
  have l1 : Below w.heap.size w (w.alloc (.cells (ocs s k t (.slice pa np pc) (.slice ra nr rc)) 62)) := Below.alloc (Below.refl _ _) (Nat.le_refl _) _
  have hy := fun j => cell_of_row _ _ j _ _ _ (heap_alloc_new w (.cells (ocs s k t (.slice pa np pc) (.slice ra nr rc)) 62 (0, 0)))
  go_enter Tryd.func71, Tryd.ntmps71
  go_wp2
  have l2 := Below.alloc l1 l1.size (.cells (hcells s k np nr 0 t false) 104)
  have e1 : (w.alloc (.cells (ocs s k t (.slice pa np pc) (.slice ra nr rc)) 62)).heap.size = w.heap.size + 1 := by simp
  have hz := fun j => cell_of_row _ _ j _ _ _ (heap_alloc_new (w.alloc (.cells (ocs s k t (.slice pa np pc) (.slice ra nr rc)) 62)) (.cells (hcells s k np nr 0 t false) 104 (0, 0)))
  rw [e1] at hz
  generalize (w.alloc (.cells (ocs s k t (.slice pa np pc) (.slice ra nr rc)) 62)).alloc (.cells (hcells s k np nr 0 t false) 104) = W at *
  have x0 : W.cell? ⟨w.heap.size + 1, 0, none⟩ = some (.int .u64 s) := hz 0
  have x1 : W.cell? ⟨w.heap.size + 1, 1, none⟩ = some (.int .i64 k) := hz 1
  have x2 : W.cell? ⟨w.heap.size + 1, 2, none⟩ = some (.int .i64 np) := hz 2
  have x3 : W.cell? ⟨w.heap.size + 1, 3, none⟩ = some (.int .i64 nr) := hz 3
  have x4 : W.cell? ⟨w.heap.size + 1, 4, none⟩ = some (.int .i64 0) := hz 4
  have x5 : W.cell? ⟨w.heap.size + 1, 5, none⟩ = some (.int .i64 t) := hz 5
  have x6 : W.cell? ⟨w.heap.size + 1, 6, none⟩ = some (.bool false) := hz 6
  refine bodyPost_ret (by simp [results, Tryd.results71, go_sem, x0, x1, x2, x3, x4, x5, x6]; try rfl) rfl ?_
  exact ⟨rfl, l2⟩

/-- Has it a header? -/
def hd16 (o : Im.Ob) : Prop := flt o.kind o.ps.length o.rs.length 0 o.site = 0

/-- The last serial. -/
def lastS (l : List Im.Ob) : Nat := (l.getLast?.map (·.ser)).getD 0

theorem lastS_snoc (l : List Im.Ob) (o : Im.Ob) : lastS (l ++ [o]) = o.ser := by simp [lastS]

theorem rise_snoc : ∀ (l : List Im.Ob) (n : Nat) (o : Im.Ob), Im.Rise n (l ++ [o]) ↔ Im.Rise n l ∧ (l.getLast?.map (·.ser)).getD n < o.ser := by
  intro l
  induction l with
  | nil => intro n o; simp [Im.Rise]
  | cons x r ih =>
    intro n o
    simp only [List.cons_append, Im.Rise, ih]
    cases r with
    | nil => simp [and_assoc]
    | cons y r => rw [List.getLast?_cons_cons]; cases h : (y :: r).getLast? with
      | none => simp at h
      | some z => simp [and_assoc]

/-- What objectsMayBe asks. -/
structure OM (g : Im.Gr) : Prop where
  rise : Im.Rise 0 g.obs
  head : ∀ o, o ∈ g.obs → hd16 o
  ptrs : ∀ o, o ∈ g.obs → allB 0 g.obs.length o.ps
  low : lastS g.obs < g.next
  nx : g.next ≤ 4611686018427387905

end Go.Proofs.YtckgcpoheodbcaaDoor

