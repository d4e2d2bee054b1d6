import Derived.Test.YtkekaifiahjljaaGreatDoorC00
import Derived.Test.YtkekaifiahjljaaGreatDoorC01
import Derived.RangeFuncBox
import Derived.Shelf.Abstract
set_option linter.unusedVariables false
set_option maxHeartbeats 8000000
set_option maxRecDepth 20000
namespace Go.Proofs.YtkekaifiahjljaaGreatDoor
open Go.RowKit Go.Shelf
def InI (x : Int) : Prop := -9223372036854775808 ≤ x ∧ x ≤ 9223372036854775807
def Lrd (n0 : Nat) (w : World) (v : Value) (k : IntKind) (xs : List Int) : Prop :=
  ∃ a cap, v = .slice a xs.length cap ∧ xs.length ≤ cap ∧ ∀ (f : Nat) z, xs[f]? = some z → ∃ q off, a = some ⟨q, off, none⟩ ∧ q < n0 ∧ w.cell? ⟨q, off + f, none⟩ = some (.int k z)
theorem Lrd.below {n0 : Nat} {w w' : World} {v : Value} {k : IntKind} {xs : List Int} (h : Lrd n0 w v k xs) (l : Below n0 w w') : Lrd n0 w' v k xs := by
  obtain ⟨a, cap, h1, h2, h3⟩ := h
  refine ⟨a, cap, h1, h2, fun f z hz => ?_⟩
  obtain ⟨q, off, h4, h5, h6⟩ := h3 f z hz
  exact ⟨q, off, h4, h5, (l.cell (p := ⟨q, off + f, none⟩) h5).trans h6⟩
theorem Lrd.mono {n0 n1 : Nat} {w : World} {v : Value} {k : IntKind} {xs : List Int} (h : Lrd n0 w v k xs) (l : n0 ≤ n1) : Lrd n1 w v k xs := by
  obtain ⟨a, cap, h1, h2, h3⟩ := h
  refine ⟨a, cap, h1, h2, fun f z hz => ?_⟩
  obtain ⟨q, off, h4, h5, h6⟩ := h3 f z hz
  exact ⟨q, off, h4, Nat.lt_of_lt_of_le h5 l, h6⟩
theorem row_at {w : World} {e size n : Nat} {v : Value} {xs : List Value} (h : w.ownsRow 0 e size v n xs) (hs : 0 < size) : ∃ a cap, v = .slice a n cap ∧ n ≤ cap ∧ ∀ (f : Nat) z, xs[f]? = some z → ∃ q, a = some ⟨q, 0, none⟩ ∧ q < w.heap.size ∧ w.cell? ⟨q, f, none⟩ = some z := by
  have hl := h.1
  rcases h.2 with ⟨rfl, rfl⟩ | ⟨g, cap, cur, rfl, hb, hg, hn, hc, hsz, ht⟩
  · exact ⟨none, 0, rfl, Nat.le_refl _, fun f z hz => by
      have := (List.getElem?_eq_some_iff.1 hz).1
      omega⟩
  · refine ⟨_, _, rfl, hn, fun f z hz => ⟨g, rfl, (Array.getElem?_eq_some_iff.1 hg).1, ?_⟩⟩
    have hf := (List.getElem?_eq_some_iff.1 hz).1
    rw [cell_of_row _ _ f _ _ _ hg, ← Array.getElem?_toList]
    rw [← ht, List.getElem?_take] at hz
    split at hz
    · exact hz
    · simp at hz
theorem Lrd.of_row {w : World} {e : Nat} {v : Value} {k : IntKind} {xs : List Int} (h : w.ownsRow 0 e 1 v xs.length (xs.map (Value.int k))) : Lrd w.heap.size w v k xs := by
  obtain ⟨a, cap, h1, h2, h3⟩ := row_at h (by decide)
  refine ⟨a, cap, h1, h2, fun f z hz => ?_⟩
  obtain ⟨q, h4, h5, h6⟩ := h3 f (.int k z) (by rw [List.getElem?_map, hz]; rfl)
  exact ⟨q, 0, h4, h5, by rw [Nat.zero_add]; exact h6⟩
def inB (lo hi z : Int) : Bool := decide (lo ≤ z) && decide (z ≤ hi)
def allB (lo hi : Int) (l : List Int) : Prop := ∀ z, z ∈ l → inB lo hi z = true
theorem within1_enters : ∀ args w, (callFunc 199 args).run Tryz.prog w = .ok (.enter 199 args) w := enters_of Tryz.func199 (by kernel_rfl) rfl
theorem within1_any (lo hi z : Int) (b1 b2 : Nat) (w : World) (h1 : w.cell? ⟨b1, 0, none⟩ = some (.int .i64 lo)) (h2 : w.cell? ⟨b2, 0, none⟩ = some (.int .i64 hi)) :
    Calls Tryz.prog 199 #[.int .i64 z, .pointer (some ⟨b1, 0, none⟩), .pointer (some ⟨b2, 0, none⟩)] w fun e w' => e = .returned (.bool (!inB lo hi z)) ∧ w' = w := by
  go_enter Tryz.func199, Tryz.ntmps199
  by_cases ha : z < lo
  · have e : (!inB lo hi z) = true := by simp [inB]; omega
    rw [e]
    go_wp2
    go_ret
    exact ⟨rfl, rfl⟩
  · by_cases hb : hi < z
    · have e : (!inB lo hi z) = true := by simp [inB]; omega
      rw [e]
      go_wp2
      go_ret
      exact ⟨rfl, rfl⟩
    · have e : (!inB lo hi z) = false := by simp [inB]; omega
      rw [e]
      go_wp2
      go_ret
      exact ⟨rfl, rfl⟩
theorem indexF_any (lo hi : Int) (b1 b2 n0 : Nat) (v : Value) (l : List Int) (w : World) (hv : Lrd n0 w v .i64 l) (hn : n0 ≤ w.heap.size) (hl : l.length ≤ 4611686018427387904) (h1 : w.cell? ⟨b1, 0, none⟩ = some (.int .i64 lo)) (h2 : w.cell? ⟨b2, 0, none⟩ = some (.int .i64 hi)) :
    Calls Tryz.prog 161 #[v, .func (.func 199) #[] #[.pointer (some ⟨b1, 0, none⟩), .pointer (some ⟨b2, 0, none⟩)]] w fun e w' => ∃ r : Int, e = .returned (.int .i64 r) ∧ w' = w ∧ (0 ≤ r ↔ ¬ allB lo hi l) := by
  obtain ⟨a, cap, rfl, hcap, hc⟩ := hv
  have Hc : Hid (∀ (f : Nat) z, l[f]? = some z → ∃ q off, a = some ⟨q, off, none⟩ ∧ q < n0 ∧ w.cell? ⟨q, off + f, none⟩ = some (.int .i64 z)) := hc
  have hent := within1_enters
  clear hc
  go_enter Tryz.func161, Tryz.ntmps161
  go_wp2
  go_loopw [8] (fun v8 wr => ∃ k : Nat, k ≤ l.length ∧ v8 = .int .i64 k ∧ w = wr ∧ Hid (∀ z, z ∈ l.take k → inB lo hi z = true)) (fun v8 _ => l.length - (intOf v8).toNat)
  case atStart => exact ⟨0, Nat.zero_le _, rfl, rfl, (fun z hz => by simp at hz : ∀ z, z ∈ l.take 0 → inB lo hi z = true)⟩
  case round =>
    obtain ⟨k, hk, rfl, rfl, Hk⟩ := hrel
    by_cases hkl : k < l.length
    · have hz : l[k]? = some (l[k]'hkl) := List.getElem?_eq_getElem hkl
      generalize l[k]'hkl = z at hz
      obtain ⟨q, off, rfl, hq, ca⟩ := Hc.out k z hz
      have hcal := within1_any lo hi z b1 b2 w h1 h2
      have hkI : (k : Int) < (l.length : Int) := by omega
      have Hz : Hid (l[k]? = some z) := hz
      clear hz
      by_cases hin : inB lo hi z = true
      · have e : (!inB lo hi z) = false := by simp [hin]
        rw [e] at hcal
        have Hn : Hid (∀ y, y ∈ l.take (k + 1) → inB lo hi y = true) := fun y hy => by
          rw [List.take_add_one, Hz.out] at hy
          rcases List.mem_append.1 hy with h9 | h9
          · exact Hk.out y h9
          · simp at h9; rw [h9]; exact hin
        clear hin e
        go_wp2_with fail
        refine hcal.mono ?_
        rintro e w5 ⟨rfl, rfl⟩
        clear hcal
        go_wp2
        go_roundw
        case rel => exact ⟨k + 1, by omega, by go_num, trivial, Hn⟩
        case measure => simp [intOf]; omega
      · have e : (!inB lo hi z) = true := by simp [hin]
        rw [e] at hcal
        have Hf : Hid (¬ allB lo hi l) := fun h9 => hin (h9 z (List.mem_of_getElem? Hz.out))
        clear hin e
        go_wp2_with fail
        refine hcal.mono ?_
        rintro e w5 ⟨rfl, rfl⟩
        clear hcal
        go_wp2
        go_ret
        exact ⟨_, rfl, rfl, fun _ => Hf.out, fun _ => by omega⟩
    · have hki : ¬ (k : Int) < (l.length : Int) := by omega
      have hke : k = l.length := by omega
      have Ha : Hid (allB lo hi l) := by
        have h9 := Hk.out
        rw [hke, List.take_length] at h9
        exact h9
      clear Hk
      go_wp2
      go_ret
      exact ⟨-1, rfl, rfl, fun h9 => by omega, fun h9 => absurd Ha.out h9⟩
theorem gWithin_any (lo hi : Int) (n0 : Nat) (v : Value) (l : List Int) (w : World) (hv : Lrd n0 w v .i64 l) (hn : n0 ≤ w.heap.size) (hl : l.length ≤ 4611686018427387904) :
    Calls Tryz.prog 180 #[v, .int .i64 lo, .int .i64 hi] w fun e w' => ∃ r : Bool, e = .returned (.bool r) ∧ Below w.heap.size w w' ∧ (r = true ↔ allB lo hi l) := by
  have l1 : Below w.heap.size w (w.alloc (.cells #[.int .i64 lo] 3)) := Below.alloc (Below.refl _ _) (Nat.le_refl _) _
  have l2 : Below w.heap.size w ((w.alloc (.cells #[.int .i64 lo] 3)).alloc (.cells #[.int .i64 hi] 3)) := Below.alloc l1 l1.size _
  have b1 : Boxed ((w.alloc (.cells #[.int .i64 lo] 3)).alloc (.cells #[.int .i64 hi] 3)) w.heap.size 3 (.int .i64 lo) := (Below.heap_alloc _ _ _ (by simp)).trans (Boxed.new w 3 _)
  have b2 : Boxed ((w.alloc (.cells #[.int .i64 lo] 3)).alloc (.cells #[.int .i64 hi] 3)) (w.heap.size + 1) 3 (.int .i64 hi) := by
    have := Boxed.new (w.alloc (.cells #[.int .i64 lo] 3)) 3 (.int .i64 hi)
    simpa using this
  have hf := indexF_any lo hi w.heap.size (w.heap.size + 1) n0 v l _ (hv.below (l2.mono hn)) (Nat.le_trans hn l2.size) hl b1.cell b2.cell
  obtain ⟨a, cap, rfl, -, -⟩ := hv
  have Hl2 : Hid (Below w.heap.size w ((w.alloc (.cells #[.int .i64 lo] 3)).alloc (.cells #[.int .i64 hi] 3))) := l2
  clear l1 b1 b2 l2
  go_enter Tryz.func180, Tryz.ntmps180
  go_wp2_with (first | (go_at_call 198; go_in))
  refine hf.mono ?_
  rintro e w5 ⟨r, rfl, rfl, hr⟩
  have Hr : Hid (0 ≤ r ↔ ¬ allB lo hi l) := hr
  clear hf hr
  go_wp2
  go_ret
  refine ⟨!decide (0 ≤ r), rfl, Hl2.out, ?_⟩
  by_cases h0 : 0 ≤ r
  · simp only [h0, decide_true, Bool.not_true, Bool.false_eq_true, false_iff]
    exact Hr.out.1 h0
  · simp only [h0, decide_false, Bool.not_false, true_iff]
    exact Classical.not_not.1 (fun h => h0 (Hr.out.2 h))
structure OL where
  o : Im.Ob
  vp : Value
  vr : Value
abbrev ocs (s k t : Int) (vp vr : Value) : Array Value := #[.int .u64 s, .int .i64 k, .int .i64 t, vp, vr]
abbrev OL.cells (x : OL) : Array Value := ocs x.o.ser x.o.kind x.o.site x.vp x.vr
def Ord (n0 : Nat) (w : World) (v : Value) (os : List OL) : Prop :=
  ∃ a cap, v = .slice a os.length cap ∧ ∀ (i : Nat) x, os[i]? = some x → Lrd n0 w x.vp .i64 x.o.ps ∧ Lrd n0 w x.vr .u64 (x.o.rs.map Int.ofNat) ∧ ∃ q off, a = some ⟨q, off, none⟩ ∧ q < n0 ∧ ∀ j, j < 5 → w.cell? ⟨q, off + i * 5 + j, none⟩ = x.cells[j]?
theorem Ord.below {n0 : Nat} {w w' : World} {v : Value} {os : List OL} (h : Ord n0 w v os) (l : Below n0 w w') : Ord n0 w' v os := by
  obtain ⟨a, cap, h1, h2⟩ := h
  refine ⟨a, cap, h1, fun i x hx => ?_⟩
  obtain ⟨h3, h4, q, off, h5, h6, h7⟩ := h2 i x hx
  exact ⟨h3.below l, h4.below l, q, off, h5, h6, fun j hj => (l.cell (p := ⟨q, off + i * 5 + j, none⟩) h6).trans (h7 j hj)⟩
def Frd (n0 : Nat) (w : World) (v : Value) (fs : List (Value × List Int)) : Prop :=
  ∃ a cap, v = .slice a fs.length cap ∧ ∀ (i : Nat) x, fs[i]? = some x → Lrd n0 w x.1 .i64 x.2 ∧ ∃ q off, a = some ⟨q, off, none⟩ ∧ q < n0 ∧ w.cell? ⟨q, off + i, none⟩ = some x.1
theorem Frd.below {n0 : Nat} {w w' : World} {v : Value} {fs : List (Value × List Int)} (h : Frd n0 w v fs) (l : Below n0 w w') : Frd n0 w' v fs := by
  obtain ⟨a, cap, h1, h2⟩ := h
  refine ⟨a, cap, h1, fun i x hx => ?_⟩
  obtain ⟨h3, q, off, h5, h6, h7⟩ := h2 i x hx
  exact ⟨h3.below l, q, off, h5, h6, (l.cell (p := ⟨q, off + i, none⟩) h6).trans h7⟩
def Trd (n0 : Nat) (w : World) (v : Value) (ts : List (Value × List (Value × List Int))) : Prop :=
  ∃ a cap, v = .slice a ts.length cap ∧ ∀ (i : Nat) x, ts[i]? = some x → Frd n0 w x.1 x.2 ∧ ∃ q off, a = some ⟨q, off, none⟩ ∧ q < n0 ∧ w.cell? ⟨q, off + i, none⟩ = some x.1
theorem Trd.below {n0 : Nat} {w w' : World} {v : Value} {ts : List (Value × List (Value × List Int))} (h : Trd n0 w v ts) (l : Below n0 w w') : Trd n0 w' v ts := by
  obtain ⟨a, cap, h1, h2⟩ := h
  refine ⟨a, cap, h1, fun i x hx => ?_⟩
  obtain ⟨h3, q, off, h5, h6, h7⟩ := h2 i x hx
  exact ⟨h3.below l, q, off, h5, h6, (l.cell (p := ⟨q, off + i, none⟩) h6).trans h7⟩
structure Grd (n0 : Nat) (w : World) (vo vs vh vr vq : Value) (os : List OL) (ts : List (Value × List (Value × List Int))) (g : Im.Gr) : Prop where
  ob : Ord n0 w vo os
  sl : Trd n0 w vs ts
  hs : Lrd n0 w vh .i64 g.hs
  rg : Lrd n0 w vr .i64 g.rg
  qu : Lrd n0 w vq .i64 g.qu
  eo : g.obs = os.map (·.o)
  es : g.slots = ts.map (fun t => t.2.map (·.2))
  nx : g.next < 18446744073709551616
  sr : ∀ o, o ∈ g.obs → o.ser < 18446744073709551616 ∧ InI o.kind ∧ InI o.site ∧ o.ps.length ≤ 4611686018427387904 ∧ o.rs.length ≤ 4611686018427387904
theorem Grd.below {n0 : Nat} {w w' : World} {vo vs vh vr vq : Value} {os : List OL} {ts : List (Value × List (Value × List Int))} {g : Im.Gr} (h : Grd n0 w vo vs vh vr vq os ts g) (l : Below n0 w w') : Grd n0 w' vo vs vh vr vq os ts g :=
  ⟨h.ob.below l, h.sl.below l, h.hs.below l, h.rg.below l, h.qu.below l, h.eo, h.es, h.nx, h.sr⟩
abbrev gcs (vo vs vh vr vq : Value) (n : Int) : Array Value := #[vo, vs, vh, vr, vq, .int .u64 n]
theorem gHead_any (s k t : Int) (pa ra : Option Addr) (np pc nr rc : Nat) (w : World) :
    Calls Tryz.prog 179 #[.agg (ocs s k t (.slice pa np pc) (.slice ra nr rc))] w fun e w' => e = .returned (hv s k np nr 0 t false) ∧ Below w.heap.size w w' := by
  have l1 : Below w.heap.size w (w.alloc (.cells (ocs s k t (.slice pa np pc) (.slice ra nr rc)) 39)) := Below.alloc (Below.refl _ _) (Nat.le_refl _) _
  have hy := fun j => cell_of_row _ _ j _ _ _ (heap_alloc_new w (.cells (ocs s k t (.slice pa np pc) (.slice ra nr rc)) 39 (0, 0)))
  go_enter Tryz.func179, Tryz.ntmps179
  go_wp2
  have l2 := Below.alloc l1 l1.size (.cells (hcells s k np nr 0 t false) 149)
  have e1 : (w.alloc (.cells (ocs s k t (.slice pa np pc) (.slice ra nr rc)) 39)).heap.size = w.heap.size + 1 := by simp
  have hz := fun j => cell_of_row _ _ j _ _ _ (heap_alloc_new (w.alloc (.cells (ocs s k t (.slice pa np pc) (.slice ra nr rc)) 39)) (.cells (hcells s k np nr 0 t false) 149 (0, 0)))
  rw [e1] at hz
  generalize (w.alloc (.cells (ocs s k t (.slice pa np pc) (.slice ra nr rc)) 39)).alloc (.cells (hcells s k np nr 0 t false) 149) = W at *
  have x0 : W.cell? ⟨w.heap.size + 1, 0, none⟩ = some (.int .u64 s) := hz 0
  have x1 : W.cell? ⟨w.heap.size + 1, 1, none⟩ = some (.int .i64 k) := hz 1
  have x2 : W.cell? ⟨w.heap.size + 1, 2, none⟩ = some (.int .i64 np) := hz 2
  have x3 : W.cell? ⟨w.heap.size + 1, 3, none⟩ = some (.int .i64 nr) := hz 3
  have x4 : W.cell? ⟨w.heap.size + 1, 4, none⟩ = some (.int .i64 0) := hz 4
  have x5 : W.cell? ⟨w.heap.size + 1, 5, none⟩ = some (.int .i64 t) := hz 5
  have x6 : W.cell? ⟨w.heap.size + 1, 6, none⟩ = some (.bool false) := hz 6
  refine bodyPost_ret (by simp [results, Tryz.results179, go_sem, x0, x1, x2, x3, x4, x5, x6]; try rfl) rfl ?_
  exact ⟨rfl, l2⟩
def hd16 (o : Im.Ob) : Prop := flt o.kind o.ps.length o.rs.length 0 o.site = 0
def lastS (l : List Im.Ob) : Nat := (l.getLast?.map (·.ser)).getD 0
theorem lastS_snoc (l : List Im.Ob) (o : Im.Ob) : lastS (l ++ [o]) = o.ser := by simp [lastS]
theorem rise_snoc : ∀ (l : List Im.Ob) (n : Nat) (o : Im.Ob), Im.Rise n (l ++ [o]) ↔ Im.Rise n l ∧ (l.getLast?.map (·.ser)).getD n < o.ser := by
  intro l
  induction l with
  | nil => intro n o; simp [Im.Rise]
  | cons x r ih =>
    intro n o
    simp only [List.cons_append, Im.Rise, ih]
    cases r with
    | nil => simp [and_assoc]
    | cons y r => rw [List.getLast?_cons_cons]; cases h : (y :: r).getLast? with
      | none => simp at h
      | some z => simp [and_assoc]
structure OM (g : Im.Gr) : Prop where
  rise : Im.Rise 0 g.obs
  head : ∀ o, o ∈ g.obs → hd16 o
  ptrs : ∀ o, o ∈ g.obs → allB 0 g.obs.length o.ps
  low : lastS g.obs < g.next
  nx : g.next ≤ 4611686018427387905
structure OMk (n : Nat) (l : List Im.Ob) : Prop where
  rise : Im.Rise 0 l
  head : ∀ o, o ∈ l → hd16 o
  ptrs : ∀ o, o ∈ l → allB 0 n o.ps
theorem OMk.nil (n : Nat) : OMk n [] := ⟨trivial, fun o h => by simp at h, fun o h => by simp at h⟩
theorem OMk.snoc {n : Nat} {l : List Im.Ob} {o : Im.Ob} (h : OMk n l) (h1 : hd16 o) (h2 : lastS l < o.ser) (h3 : allB 0 n o.ps) : OMk n (l ++ [o]) :=
  ⟨(rise_snoc l 0 o).2 ⟨h.rise, h2⟩, fun x hx => by rcases List.mem_append.1 hx with h9 | h9; exact h.head x h9; simp at h9; rw [h9]; exact h1,
    fun x hx => by rcases List.mem_append.1 hx with h9 | h9; exact h.ptrs x h9; simp at h9; rw [h9]; exact h3⟩
theorem rise_take {l : List Im.Ob} {n k : Nat} (h : Im.Rise n l) : Im.Rise n (l.take k) := by
  induction l generalizing n k with
  | nil => simpa using h
  | cons x r ih => cases k with
    | zero => trivial
    | succ k => exact ⟨h.1, ih h.2⟩
theorem take_snoc {l : List Im.Ob} {k : Nat} {o : Im.Ob} (h : l[k]? = some o) : l.take (k + 1) = l.take k ++ [o] := by
  rw [List.take_add_one, h]; rfl
theorem gObjects_any (n0 : Nat) (w : World) (vo vs vh vr vq : Value) (os : List OL) (ts : List (Value × List (Value × List Int))) (g : Im.Gr) (hg : Grd n0 w vo vs vh vr vq os ts g) (hn : n0 ≤ w.heap.size) (hL : Laid w) (hol : os.length ≤ 4611686018427387904) :
    Calls Tryz.prog 152 #[.agg (gcs vo vs vh vr vq g.next)] w fun e w' => ∃ r : Bool, e = .returned (.bool r) ∧ Below w.heap.size w w' ∧ (r = true ↔ OM g) := by
  have l1 : Below w.heap.size w (w.alloc (.cells (gcs vo vs vh vr vq g.next) 27)) := Below.alloc (Below.refl _ _) (Nat.le_refl _) _
  have hy := fun j => cell_of_row _ _ j _ _ _ (heap_alloc_new w (.cells (gcs vo vs vh vr vq g.next) 27 (0, 0)))
  have y0 : (w.alloc (.cells (gcs vo vs vh vr vq g.next) 27)).cell? ⟨w.heap.size, 0, none⟩ = some vo := hy 0
  have y5 : (w.alloc (.cells (gcs vo vs vh vr vq g.next) 27)).cell? ⟨w.heap.size, 5, none⟩ = some (.int .u64 g.next) := hy 5
  have Hg : Hid (Grd n0 w vo vs vh vr vq os ts g) := hg
  have HL : Hid (Laid w) := hL
  have hx := hg.ob
  obtain ⟨a, cap, rfl, -⟩ := hx
  clear hg hL hy
  generalize hw1 : w.alloc (.cells (gcs (.slice a os.length cap) vs vh vr vq g.next) 27) = w1 at *
  go_enter Tryz.func152, Tryz.ntmps152
  go_wp2
  go_loopw [3, 11] (fun v3 v11 wr => ∃ k : Nat, k ≤ os.length ∧ v11 = .int .i64 k ∧ v3 = .int .u64 (lastS ((os.map (·.o)).take k)) ∧ Hid (Below w1.heap.size w1 wr) ∧ Hid (OMk os.length ((os.map (·.o)).take k))) (fun _ v11 _ => os.length - (intOf v11).toNat)
  case atStart => exact ⟨0, Nat.zero_le _, rfl, rfl, Below.refl _ _, OMk.nil _⟩
  case round =>
    obtain ⟨k, hk, rfl, rfl, Hb, Hk⟩ := hrel
    have e1 : w1.heap.size = w.heap.size + 1 := by rw [← hw1]; simp
    have z0 : wr.cell? ⟨w.heap.size, 0, none⟩ = some (.slice a os.length cap) := (Hb.out.cell (p := ⟨w.heap.size, 0, none⟩) (by rw [e1]; exact Nat.lt_succ_self _)).trans y0
    have z5 : wr.cell? ⟨w.heap.size, 5, none⟩ = some (.int .u64 g.next) := (Hb.out.cell (p := ⟨w.heap.size, 5, none⟩) (by rw [e1]; exact Nat.lt_succ_self _)).trans y5
    have B1 : Hid (Below w.heap.size w wr) := l1.trans (Hb.out.mono l1.size)
    by_cases hkl : k < os.length
    · have hki : (k : Int) < (os.length : Int) := by omega
      have hz : os[k]? = some (os[k]'hkl) := List.getElem?_eq_getElem hkl
      generalize os[k]'hkl = x at hz
      have hgr := Hg.out.below (B1.out.mono hn)
      obtain ⟨a', cap', ea, hob⟩ := hgr.ob
      cases ea
      obtain ⟨hp, hr, q, off, rfl, hq, hc⟩ := hob k x hz
      have c0 : wr.cell? ⟨q, off + k * 5, none⟩ = some (.int .u64 x.o.ser) := hc 0 (by omega)
      have c1 : wr.cell? ⟨q, off + k * 5 + 1, none⟩ = some (.int .i64 x.o.kind) := hc 1 (by omega)
      have c2 : wr.cell? ⟨q, off + k * 5 + 2, none⟩ = some (.int .i64 x.o.site) := hc 2 (by omega)
      have c3 : wr.cell? ⟨q, off + k * 5 + 3, none⟩ = some x.vp := hc 3 (by omega)
      have c4 : wr.cell? ⟨q, off + k * 5 + 4, none⟩ = some x.vr := hc 4 (by omega)
      clear hc hob
      have Hp : Hid (Lrd n0 wr x.vp .i64 x.o.ps) := hp
      have Hr : Hid (Lrd n0 wr x.vr .u64 (x.o.rs.map Int.ofNat)) := hr
      obtain ⟨ap, cp, ep, -⟩ := hp
      obtain ⟨ar, cr, er, -⟩ := hr
      rw [ep] at c3
      rw [er] at c4
      clear hgr
      have hz2 : Hid ((os.map (·.o))[k]? = some x.o) := by rw [List.getElem?_map, hz]; rfl
      have hsr := Hg.out.sr x.o (by rw [Hg.out.eo]; exact List.mem_of_getElem? hz2.out)
      have Hs : Hid (x.o.ps.length ≤ 4611686018427387904) := hsr.2.2.2.1
      clear hsr hz
      go_wp2_with fail
      have lA : Below wr.heap.size wr (wr.alloc (.cells (ocs x.o.ser x.o.kind x.o.site (.slice ap x.o.ps.length cp) (.slice ar x.o.rs.length cr)) 39)) := Below.alloc (Below.refl _ _) (Nat.le_refl _) _
      have hA := fun j => cell_of_row _ _ j _ _ _ (heap_alloc_new wr (.cells (ocs x.o.ser x.o.kind x.o.site (.slice ap x.o.ps.length cp) (.slice ar x.o.rs.length cr)) 39 (0, 0)))
      have eA : (wr.alloc (.cells (ocs x.o.ser x.o.kind x.o.site (.slice ap x.o.ps.length cp) (.slice ar x.o.rs.length cr)) 39)).heap.size = wr.heap.size + 1 := by simp
      generalize wr.alloc (.cells (ocs x.o.ser x.o.kind x.o.site (.slice ap x.o.ps.length cp) (.slice ar x.o.rs.length cr)) 39) = wA at *
      refine (gHead_any x.o.ser x.o.kind x.o.site ap ar x.o.ps.length cp x.o.rs.length cr wA).mono ?_
      rintro e wB ⟨rfl, bB⟩
      have LB : Laid wB := ((HL.out.keep (B1.out)).keep lA).keep bB
      have hpk := pack_any x.o.ser x.o.kind x.o.ps.length x.o.rs.length 0 x.o.site false wB LB
      clear LB
      go_wp2_with fail
      refine hpk.mono ?_
      rintro e wC ⟨rfl, bC⟩
      have bAC : Below wA.heap.size wA wC := bB.trans (bC.mono bB.size)
      have brC : Below wr.heap.size wr wC := lA.trans (bAC.mono lA.size)
      have hlt : wr.heap.size < wA.heap.size := by rw [eA]; exact Nat.lt_succ_self _
      have hlC : Hid (wr.heap.size < wC.heap.size) := Nat.lt_of_lt_of_le hlt bAC.size
      have d0 : wC.cell? ⟨wr.heap.size, 0, none⟩ = some (.int .u64 x.o.ser) := (bAC.cell (p := ⟨wr.heap.size, 0, none⟩) hlt).trans (hA 0)
      have d3 : wC.cell? ⟨wr.heap.size, 3, none⟩ = some (.slice ap x.o.ps.length cp) := (bAC.cell (p := ⟨wr.heap.size, 3, none⟩) hlt).trans (hA 3)
      have hlw : w.heap.size < wr.heap.size := by have := Hb.out.size; omega
      have y0C : wC.cell? ⟨w.heap.size, 0, none⟩ = some (.slice (some ⟨q, off, none⟩) os.length cap) := (brC.cell (p := ⟨w.heap.size, 0, none⟩) hlw).trans z0
      have HpC : Hid (Lrd n0 wC x.vp .i64 x.o.ps) := Hp.out.below (brC.mono (Nat.le_trans hn B1.out.size))
      have HbC : Hid (Below w1.heap.size w1 wC) := Hb.out.trans (brC.mono Hb.out.size)
      clear hpk bB bC bAC brC hA lA eA c0 c1 c2 c3 c4 z0 z5 Hp Hr hlt
      by_cases hf : flt x.o.kind x.o.ps.length x.o.rs.length 0 x.o.site = 0
      · have Hf : Hid (hd16 x.o) := hf
        rw [hf]
        clear hf
        by_cases hs : lastS ((os.map (·.o)).take k) < x.o.ser
        · have hsi : ¬ (x.o.ser : Int) ≤ (lastS ((os.map (·.o)).take k) : Int) := by omega
          have hwi := gWithin_any 0 os.length n0 x.vp x.o.ps wC HpC.out (by have := HbC.out.size; omega) Hs.out
          rw [ep] at hwi
          have hsn : ¬ x.o.ser ≤ lastS ((os.map (·.o)).take k) := by omega
          go_wp2_with fail
          refine hwi.mono ?_
          rintro e wD ⟨r, rfl, bD, hr⟩
          have HbD : Hid (Below w1.heap.size w1 wD) := HbC.out.trans (bD.mono HbC.out.size)
          have d0D : wD.cell? ⟨wr.heap.size, 0, none⟩ = some (.int .u64 x.o.ser) := (bD.cell (p := ⟨wr.heap.size, 0, none⟩) hlC.out).trans d0
          clear bD d0 d3
          cases r with
          | true =>
            have Hn : Hid (OMk os.length ((os.map (·.o)).take (k + 1))) := by
              have h9 := Hk.out.snoc Hf.out hs (hr.1 rfl)
              rw [← take_snoc hz2.out] at h9
              exact h9
            have hls : lastS ((os.map (·.o)).take (k + 1)) = x.o.ser := by rw [take_snoc hz2.out, lastS_snoc]
            have Hls : Hid (lastS ((os.map (·.o)).take (k + 1)) = x.o.ser) := hls
            clear hls hr hwi
            go_wp2
            go_roundw
            case rel => exact ⟨k + 1, by omega, by go_num, by rw [Hls.out], HbD, Hn⟩
            case measure => simp [intOf]; omega
          | false =>
            have Hn : Hid (¬ OM g) := fun h9 => by
              have h8 := h9.ptrs x.o (by rw [Hg.out.eo]; exact List.mem_of_getElem? hz2.out)
              rw [Hg.out.eo, List.length_map] at h8
              exact Bool.noConfusion (hr.2 h8)
            clear hr hwi
            go_wp2
            go_ret
            exact ⟨false, rfl, l1.trans (HbD.out.mono l1.size), by simpa using Hn.out⟩
        · have hsi : (x.o.ser : Int) ≤ (lastS ((os.map (·.o)).take k) : Int) := by omega
          have Hn : Hid (¬ OM g) := fun h9 => by
            have := (rise_snoc ((os.map (·.o)).take k) 0 x.o).1 (by rw [← take_snoc hz2.out]; have := h9.rise; rw [Hg.out.eo] at this; exact rise_take this)
            exact hs this.2
          clear hs
          go_wp2
          go_ret
          exact ⟨false, rfl, l1.trans (HbC.out.mono l1.size), by simpa using Hn.out⟩
      · have Hn : Hid (¬ OM g) := fun h9 => hf (h9.head x.o (by rw [Hg.out.eo]; exact List.mem_of_getElem? hz2.out))
        go_wp2
        go_ret
        exact ⟨false, rfl, l1.trans (HbC.out.mono l1.size), by simpa using Hn.out⟩
    · have hki : ¬ (k : Int) < (os.length : Int) := by omega
      have hke : k = os.length := by omega
      subst hke
      have Ha : Hid (OMk g.obs.length g.obs) := by
        have h9 := Hk.out
        rw [← List.length_map (f := fun x : OL => x.o), List.take_length, ← Hg.out.eo] at h9
        exact h9
      have ela : lastS ((os.map (·.o)).take os.length) = lastS g.obs := by
        rw [← List.length_map (f := fun x : OL => x.o), List.take_length, ← Hg.out.eo]
      rw [ela]
      clear Hk ela
      by_cases hlo : lastS g.obs < g.next
      · have hloi : (lastS g.obs : Int) < (g.next : Int) := by omega
        by_cases hnx : g.next ≤ 4611686018427387905
        · have hnxi : (g.next : Int) ≤ 4611686018427387905 := by omega
          go_wp2
          go_ret
          exact .inr ⟨rfl, l1.trans (Hb.out.mono l1.size), Ha.out.rise, Ha.out.head, Ha.out.ptrs, hlo, hnx⟩
        · have hnxi : ¬ (g.next : Int) ≤ 4611686018427387905 := by omega
          go_wp2
          go_ret
          exact .inl ⟨rfl, l1.trans (Hb.out.mono l1.size), fun h9 => hnx h9.nx⟩
      · have hloi : ¬ (lastS g.obs : Int) < (g.next : Int) := by omega
        go_wp2
        go_ret
        exact .inl ⟨rfl, l1.trans (Hb.out.mono l1.size), fun h9 => hlo h9.low⟩
end Go.Proofs.YtkekaifiahjljaaGreatDoor
