import Derived.Test.YtckgcpoheodbcaaGreatDoorQ00
import Derived.Test.YtckgcpoheodbcaaGreatDoorQ01
import Derived.RangeFuncBox
import Derived.Shelf.Abstract
import Derived.Test.YtckgcpoheodbcaaGreatDoorRows
import Derived.Maps.AppendAt
import Derived.Deep.CutRange
set_option linter.unusedVariables false
set_option maxHeartbeats 8000000
set_option maxRecDepth 20000
namespace Go.Proofs.YtckgcpoheodbcaaGreatDoor
open Go.RowKit Go.Shelf
def InI (x : Int) : Prop := -9223372036854775808 ≤ x ∧ x ≤ 9223372036854775807
def Lrd (n0 : Nat) (w : World) (v : Value) (k : IntKind) (xs : List Int) : Prop :=
 ∃ a cap, v = .slice a xs.length cap ∧ xs.length ≤ cap ∧ ∀ (f : Nat) z, xs[f]? = some z → ∃ q off, a = some ⟨q, off, none⟩ ∧ q < n0 ∧ w.cell? ⟨q, off + f, none⟩ = some (.int k z)
theorem Lrd.below {n0 : Nat} {w w' : World} {v : Value} {k : IntKind} {xs : List Int} (h : Lrd n0 w v k xs) (l : Below n0 w w') : Lrd n0 w' v k xs := by
 obtain ⟨a, cap, h1, h2, h3⟩ := h
 refine ⟨a, cap, h1, h2, fun f z hz => ?_⟩
 obtain ⟨q, off, h4, h5, h6⟩ := h3 f z hz
 exact ⟨q, off, h4, h5, (l.cell (p := ⟨q, off + f, none⟩) h5).trans h6⟩
theorem Lrd.mono {n0 n1 : Nat} {w : World} {v : Value} {k : IntKind} {xs : List Int} (h : Lrd n0 w v k xs) (l : n0 ≤ n1) : Lrd n1 w v k xs := by
 obtain ⟨a, cap, h1, h2, h3⟩ := h
 refine ⟨a, cap, h1, h2, fun f z hz => ?_⟩
 obtain ⟨q, off, h4, h5, h6⟩ := h3 f z hz
 exact ⟨q, off, h4, Nat.lt_of_lt_of_le h5 l, h6⟩
theorem row_at {w : World} {e size n : Nat} {v : Value} {xs : List Value} (h : w.ownsRow 0 e size v n xs) (hs : 0 < size) : ∃ a cap, v = .slice a n cap ∧ n ≤ cap ∧ ∀ (f : Nat) z, xs[f]? = some z → ∃ q, a = some ⟨q, 0, none⟩ ∧ q < w.heap.size ∧ w.cell? ⟨q, f, none⟩ = some z := by
 have hl := h.1
 rcases h.2 with ⟨rfl, rfl⟩ | ⟨g, cap, cur, rfl, hb, hg, hn, hc, hsz, ht⟩
 ·exact ⟨none, 0, rfl, Nat.le_refl _, fun f z hz => by
   have := (List.getElem?_eq_some_iff.1 hz).1
   omega⟩
 ·refine ⟨_, _, rfl, hn, fun f z hz => ⟨g, rfl, (Array.getElem?_eq_some_iff.1 hg).1, ?_⟩⟩
  have hf := (List.getElem?_eq_some_iff.1 hz).1
  rw [cell_of_row _ _ f _ _ _ hg, ← Array.getElem?_toList]
  rw [← ht, List.getElem?_take] at hz
  split at hz
  ·exact hz
  ·simp at hz
theorem Lrd.of_row {w : World} {e : Nat} {v : Value} {k : IntKind} {xs : List Int} (h : w.ownsRow 0 e 1 v xs.length (xs.map (Value.int k))) : Lrd w.heap.size w v k xs := by
 obtain ⟨a, cap, h1, h2, h3⟩ := row_at h (by decide)
 refine ⟨a, cap, h1, h2, fun f z hz => ?_⟩
 obtain ⟨q, h4, h5, h6⟩ := h3 f (.int k z) (by rw [List.getElem?_map, hz]; rfl)
 exact ⟨q, 0, h4, h5, by rw [Nat.zero_add]; exact h6⟩
def inB (lo hi z : Int) : Bool := decide (lo ≤ z) && decide (z ≤ hi)
def allB (lo hi : Int) (l : List Int) : Prop := ∀ z, z ∈ l → inB lo hi z = true
theorem within1_enters : ∀ args w, (callFunc 138 args).run Tryz.prog w = .ok (.enter 138 args) w := enters_of Tryz.func138 (by kernel_rfl) rfl
theorem within1_any (lo hi z : Int) (b1 b2 : Nat) (w : World) (h1 : w.cell? ⟨b1, 0, none⟩ = some (.int .i64 lo)) (h2 : w.cell? ⟨b2, 0, none⟩ = some (.int .i64 hi)) :
  Calls Tryz.prog 138 #[.int .i64 z, .pointer (some ⟨b1, 0, none⟩), .pointer (some ⟨b2, 0, none⟩)] w fun e w' => e = .returned (.bool (!inB lo hi z)) ∧ w' = w := by
 go_enter Tryz.func138, Tryz.ntmps138
 by_cases ha : z < lo
 ·have e : (!inB lo hi z) = true := by simp [inB]; omega
  rw [e]
  go_wp2
  go_ret
  exact ⟨rfl, rfl⟩
 ·by_cases hb : hi < z
  ·have e : (!inB lo hi z) = true := by simp [inB]; omega
   rw [e]
   go_wp2
   go_ret
   exact ⟨rfl, rfl⟩
  ·have e : (!inB lo hi z) = false := by simp [inB]; omega
   rw [e]
   go_wp2
   go_ret
   exact ⟨rfl, rfl⟩
theorem indexF_any (lo hi : Int) (b1 b2 n0 : Nat) (v : Value) (l : List Int) (w : World) (hv : Lrd n0 w v .i64 l) (hn : n0 ≤ w.heap.size) (hl : l.length ≤ 4611686018427387904) (h1 : w.cell? ⟨b1, 0, none⟩ = some (.int .i64 lo)) (h2 : w.cell? ⟨b2, 0, none⟩ = some (.int .i64 hi)) :
  Calls Tryz.prog 101 #[v, .func (.func 138) #[] #[.pointer (some ⟨b1, 0, none⟩), .pointer (some ⟨b2, 0, none⟩)]] w fun e w' => ∃ r : Int, e = .returned (.int .i64 r) ∧ w' = w ∧ (0 ≤ r ↔ ¬ allB lo hi l) := by
 obtain ⟨a, cap, rfl, hcap, hc⟩ := hv
 have Hc : Hid (∀ (f : Nat) z, l[f]? = some z → ∃ q off, a = some ⟨q, off, none⟩ ∧ q < n0 ∧ w.cell? ⟨q, off + f, none⟩ = some (.int .i64 z)) := hc
 have hent := within1_enters
 clear hc
 go_enter Tryz.func101, Tryz.ntmps101
 go_wp2
 go_loopw [8] (fun v8 wr => ∃ k : Nat, k ≤ l.length ∧ v8 = .int .i64 k ∧ w = wr ∧ Hid (∀ z, z ∈ l.take k → inB lo hi z = true)) (fun v8 _ => l.length - (intOf v8).toNat)
 case atStart => exact ⟨0, Nat.zero_le _, rfl, rfl, (fun z hz => by simp at hz : ∀ z, z ∈ l.take 0 → inB lo hi z = true)⟩
 case round =>
  obtain ⟨k, hk, rfl, rfl, Hk⟩ := hrel
  by_cases hkl : k < l.length
  ·have hz : l[k]? = some (l[k]'hkl) := List.getElem?_eq_getElem hkl
   generalize l[k]'hkl = z at hz
   obtain ⟨q, off, rfl, hq, ca⟩ := Hc.out k z hz
   have hcal := within1_any lo hi z b1 b2 w h1 h2
   have hkI : (k : Int) < (l.length : Int) := by omega
   have Hz : Hid (l[k]? = some z) := hz
   clear hz
   by_cases hin : inB lo hi z = true
   ·have e : (!inB lo hi z) = false := by simp [hin]
    rw [e] at hcal
    have Hn : Hid (∀ y, y ∈ l.take (k + 1) → inB lo hi y = true) := fun y hy => by
     rw [List.take_add_one, Hz.out] at hy
     rcases List.mem_append.1 hy with h9 | h9
     ·exact Hk.out y h9
     ·simp at h9; rw [h9]; exact hin
    clear hin e
    go_wp2_with fail
    refine hcal.mono ?_
    rintro e w5 ⟨rfl, rfl⟩
    clear hcal
    go_wp2
    go_roundw
    case rel => exact ⟨k + 1, by omega, by go_num, trivial, Hn⟩
    case measure => simp [intOf]; omega
   ·have e : (!inB lo hi z) = true := by simp [hin]
    rw [e] at hcal
    have Hf : Hid (¬ allB lo hi l) := fun h9 => hin (h9 z (List.mem_of_getElem? Hz.out))
    clear hin e
    go_wp2_with fail
    refine hcal.mono ?_
    rintro e w5 ⟨rfl, rfl⟩
    clear hcal
    go_wp2
    go_ret
    exact ⟨_, rfl, rfl, fun _ => Hf.out, fun _ => by omega⟩
  ·have hki : ¬ (k : Int) < (l.length : Int) := by omega
   have hke : k = l.length := by omega
   have Ha : Hid (allB lo hi l) := by
    have h9 := Hk.out
    rw [hke, List.take_length] at h9
    exact h9
   clear Hk
   go_wp2
   go_ret
   exact ⟨-1, rfl, rfl, fun h9 => by omega, fun h9 => absurd Ha.out h9⟩
theorem gWithin_any (lo hi : Int) (n0 : Nat) (v : Value) (l : List Int) (w : World) (hv : Lrd n0 w v .i64 l) (hn : n0 ≤ w.heap.size) (hl : l.length ≤ 4611686018427387904) :
  Calls Tryz.prog 114 #[v, .int .i64 lo, .int .i64 hi] w fun e w' => ∃ r : Bool, e = .returned (.bool r) ∧ Below w.heap.size w w' ∧ (r = true ↔ allB lo hi l) := by
 have l1 : Below w.heap.size w (w.alloc (.cells #[.int .i64 lo] 3)) := Below.alloc (Below.refl _ _) (Nat.le_refl _) _
 have l2 : Below w.heap.size w ((w.alloc (.cells #[.int .i64 lo] 3)).alloc (.cells #[.int .i64 hi] 3)) := Below.alloc l1 l1.size _
 have b1 : Boxed ((w.alloc (.cells #[.int .i64 lo] 3)).alloc (.cells #[.int .i64 hi] 3)) w.heap.size 3 (.int .i64 lo) := (Below.heap_alloc _ _ _ (by simp)).trans (Boxed.new w 3 _)
 have b2 : Boxed ((w.alloc (.cells #[.int .i64 lo] 3)).alloc (.cells #[.int .i64 hi] 3)) (w.heap.size + 1) 3 (.int .i64 hi) := by
  have := Boxed.new (w.alloc (.cells #[.int .i64 lo] 3)) 3 (.int .i64 hi)
  simpa using this
 have hf := indexF_any lo hi w.heap.size (w.heap.size + 1) n0 v l _ (hv.below (l2.mono hn)) (Nat.le_trans hn l2.size) hl b1.cell b2.cell
 obtain ⟨a, cap, rfl, -, -⟩ := hv
 have Hl2 : Hid (Below w.heap.size w ((w.alloc (.cells #[.int .i64 lo] 3)).alloc (.cells #[.int .i64 hi] 3))) := l2
 clear l1 b1 b2 l2
 go_enter Tryz.func114, Tryz.ntmps114
 go_wp2_with (first | (go_at_call 137; go_in))
 refine hf.mono ?_
 rintro e w5 ⟨r, rfl, rfl, hr⟩
 have Hr : Hid (0 ≤ r ↔ ¬ allB lo hi l) := hr
 clear hf hr
 go_wp2
 go_ret
 refine ⟨!decide (0 ≤ r), rfl, Hl2.out, ?_⟩
 by_cases h0 : 0 ≤ r
 ·simp only [h0, decide_true, Bool.not_true, Bool.false_eq_true, false_iff]
  exact Hr.out.1 h0
 ·simp only [h0, decide_false, Bool.not_false, true_iff]
  exact Classical.not_not.1 (fun h => h0 (Hr.out.2 h))
structure OL where
 o : Im.Ob
 vp : Value
 vr : Value
abbrev ocs (s k t : Int) (vp vr : Value) : Array Value := #[.int .u64 s, .int .i64 k, .int .i64 t, vp, vr]
abbrev OL.cells (x : OL) : Array Value := ocs x.o.ser x.o.kind x.o.site x.vp x.vr
def Ord (n0 : Nat) (w : World) (v : Value) (os : List OL) : Prop :=
 ∃ a cap, v = .slice a os.length cap ∧ ∀ (i : Nat) x, os[i]? = some x → Lrd n0 w x.vp .i64 x.o.ps ∧ Lrd n0 w x.vr .u64 (x.o.rs.map Int.ofNat) ∧ ∃ q off, a = some ⟨q, off, none⟩ ∧ q < n0 ∧ ∀ j, j < 5 → w.cell? ⟨q, off + i * 5 + j, none⟩ = x.cells[j]?
theorem Ord.below {n0 : Nat} {w w' : World} {v : Value} {os : List OL} (h : Ord n0 w v os) (l : Below n0 w w') : Ord n0 w' v os := by
 obtain ⟨a, cap, h1, h2⟩ := h
 refine ⟨a, cap, h1, fun i x hx => ?_⟩
 obtain ⟨h3, h4, q, off, h5, h6, h7⟩ := h2 i x hx
 exact ⟨h3.below l, h4.below l, q, off, h5, h6, fun j hj => (l.cell (p := ⟨q, off + i * 5 + j, none⟩) h6).trans (h7 j hj)⟩
def Frd (n0 : Nat) (w : World) (v : Value) (fs : List (Value × List Int)) : Prop :=
 ∃ a cap, v = .slice a fs.length cap ∧ ∀ (i : Nat) x, fs[i]? = some x → Lrd n0 w x.1 .i64 x.2 ∧ ∃ q off, a = some ⟨q, off, none⟩ ∧ q < n0 ∧ w.cell? ⟨q, off + i, none⟩ = some x.1
theorem Frd.below {n0 : Nat} {w w' : World} {v : Value} {fs : List (Value × List Int)} (h : Frd n0 w v fs) (l : Below n0 w w') : Frd n0 w' v fs := by
 obtain ⟨a, cap, h1, h2⟩ := h
 refine ⟨a, cap, h1, fun i x hx => ?_⟩
 obtain ⟨h3, q, off, h5, h6, h7⟩ := h2 i x hx
 exact ⟨h3.below l, q, off, h5, h6, (l.cell (p := ⟨q, off + i, none⟩) h6).trans h7⟩
def Trd (n0 : Nat) (w : World) (v : Value) (ts : List (Value × List (Value × List Int))) : Prop :=
 ∃ a cap, v = .slice a ts.length cap ∧ ∀ (i : Nat) x, ts[i]? = some x → Frd n0 w x.1 x.2 ∧ ∃ q off, a = some ⟨q, off, none⟩ ∧ q < n0 ∧ w.cell? ⟨q, off + i, none⟩ = some x.1
theorem Trd.below {n0 : Nat} {w w' : World} {v : Value} {ts : List (Value × List (Value × List Int))} (h : Trd n0 w v ts) (l : Below n0 w w') : Trd n0 w' v ts := by
 obtain ⟨a, cap, h1, h2⟩ := h
 refine ⟨a, cap, h1, fun i x hx => ?_⟩
 obtain ⟨h3, q, off, h5, h6, h7⟩ := h2 i x hx
 exact ⟨h3.below l, q, off, h5, h6, (l.cell (p := ⟨q, off + i, none⟩) h6).trans h7⟩
structure Grd (n0 : Nat) (w : World) (vo vs vh vr vq : Value) (os : List OL) (ts : List (Value × List (Value × List Int))) (g : Im.Gr) : Prop where
 ob : Ord n0 w vo os
 sl : Trd n0 w vs ts
 hs : Lrd n0 w vh .i64 g.hs
 rg : Lrd n0 w vr .i64 g.rg
 qu : Lrd n0 w vq .i64 g.qu
 eo : g.obs = os.map (·.o)
 es : g.slots = ts.map (fun t => t.2.map (·.2))
 nx : g.next < 18446744073709551616
 sr : ∀ o, o ∈ g.obs → o.ser < 18446744073709551616 ∧ InI o.kind ∧ InI o.site ∧ o.ps.length ≤ 4611686018427387904 ∧ o.rs.length ≤ 4611686018427387904
theorem Grd.below {n0 : Nat} {w w' : World} {vo vs vh vr vq : Value} {os : List OL} {ts : List (Value × List (Value × List Int))} {g : Im.Gr} (h : Grd n0 w vo vs vh vr vq os ts g) (l : Below n0 w w') : Grd n0 w' vo vs vh vr vq os ts g :=
 ⟨h.ob.below l, h.sl.below l, h.hs.below l, h.rg.below l, h.qu.below l, h.eo, h.es, h.nx, h.sr⟩
abbrev gcs (vo vs vh vr vq : Value) (n : Int) : Array Value := #[vo, vs, vh, vr, vq, .int .u64 n]
theorem gHead_any (s k t : Int) (pa ra : Option Addr) (np pc nr rc : Nat) (w : World) :
  Calls Tryz.prog 113 #[.agg (ocs s k t (.slice pa np pc) (.slice ra nr rc))] w fun e w' => e = .returned (hv s k np nr 0 t false) ∧ Below w.heap.size w w' := by
 have l1 : Below w.heap.size w (w.alloc (.cells (ocs s k t (.slice pa np pc) (.slice ra nr rc)) 61)) := Below.alloc (Below.refl _ _) (Nat.le_refl _) _
 have hy := fun j => cell_of_row _ _ j _ _ _ (heap_alloc_new w (.cells (ocs s k t (.slice pa np pc) (.slice ra nr rc)) 61 (0, 0)))
 go_enter Tryz.func113, Tryz.ntmps113
 go_wp2
 have l2 := Below.alloc l1 l1.size (.cells (hcells s k np nr 0 t false) 112)
 have e1 : (w.alloc (.cells (ocs s k t (.slice pa np pc) (.slice ra nr rc)) 61)).heap.size = w.heap.size + 1 := by simp
 have hz := fun j => cell_of_row _ _ j _ _ _ (heap_alloc_new (w.alloc (.cells (ocs s k t (.slice pa np pc) (.slice ra nr rc)) 61)) (.cells (hcells s k np nr 0 t false) 112 (0, 0)))
 rw [e1] at hz
 generalize (w.alloc (.cells (ocs s k t (.slice pa np pc) (.slice ra nr rc)) 61)).alloc (.cells (hcells s k np nr 0 t false) 112) = W at *
 have x0 : W.cell? ⟨w.heap.size + 1, 0, none⟩ = some (.int .u64 s) := hz 0
 have x1 : W.cell? ⟨w.heap.size + 1, 1, none⟩ = some (.int .i64 k) := hz 1
 have x2 : W.cell? ⟨w.heap.size + 1, 2, none⟩ = some (.int .i64 np) := hz 2
 have x3 : W.cell? ⟨w.heap.size + 1, 3, none⟩ = some (.int .i64 nr) := hz 3
 have x4 : W.cell? ⟨w.heap.size + 1, 4, none⟩ = some (.int .i64 0) := hz 4
 have x5 : W.cell? ⟨w.heap.size + 1, 5, none⟩ = some (.int .i64 t) := hz 5
 have x6 : W.cell? ⟨w.heap.size + 1, 6, none⟩ = some (.bool false) := hz 6
 refine bodyPost_ret (by simp [results, Tryz.results113, go_sem, x0, x1, x2, x3, x4, x5, x6]; try rfl) rfl ?_
 exact ⟨rfl, l2⟩
def hd16 (o : Im.Ob) : Prop := flt o.kind o.ps.length o.rs.length 0 o.site = 0
def lastS (l : List Im.Ob) : Nat := (l.getLast?.map (·.ser)).getD 0
theorem lastS_snoc (l : List Im.Ob) (o : Im.Ob) : lastS (l ++ [o]) = o.ser := by simp [lastS]
theorem rise_snoc : ∀ (l : List Im.Ob) (n : Nat) (o : Im.Ob), Im.Rise n (l ++ [o]) ↔ Im.Rise n l ∧ (l.getLast?.map (·.ser)).getD n < o.ser := by
 intro l
 induction l with
 | nil => intro n o; simp [Im.Rise]
 | cons x r ih =>
  intro n o
  simp only [List.cons_append, Im.Rise, ih]
  cases r with
  | nil => simp [and_assoc]
  | cons y r => rw [List.getLast?_cons_cons]; cases h : (y :: r).getLast? with
   | none => simp at h
   | some z => simp [and_assoc]
structure OM (g : Im.Gr) : Prop where
 rise : Im.Rise 0 g.obs
 head : ∀ o, o ∈ g.obs → hd16 o
 ptrs : ∀ o, o ∈ g.obs → allB 0 g.obs.length o.ps
 low : lastS g.obs < g.next
 nx : g.next ≤ 4611686018427387905
end Go.Proofs.YtckgcpoheodbcaaGreatDoor
namespace Go.Proofs.YtckgcpoheodbcaaGreatDoor.Kg
open Go.RowKit
section
variable {P : Program} {ops : Array Oper} {md : Region.Mode} {C : World → Prop}
end
end Go.Proofs.YtckgcpoheodbcaaGreatDoor.Kg
namespace Go.Proofs.YtckgcpoheodbcaaGreatDoor.Lp
variable {W : Nat → List Nat} {seq : List Nat} {k : Nat} {by' dep pos : Nat → Nat}
variable {W : Nat → List Nat} {seq : List Nat} {k : Nat} {by' dep pos : Nat → Nat}
variable {W : Nat → List Nat} {t n : Nat}
end Go.Proofs.YtckgcpoheodbcaaGreatDoor.Lp
namespace Go.Proofs.YtckgcpoheodbcaaGreatDoor
open Go.RowKit Go.Shelf
def fst17 (k : Int) : Nat := if k = 2 then 1 else if k = 3 then 2 else 0
theorem fst17_le (k : Int) : fst17 k ≤ 2 := by unfold fst17; split; omega; split <;> omega
def stg (o : Im.Ob) : List Int := (o.ps.drop (fst17 o.kind)).filter (fun z => decide (0 < z))
theorem firstStrong_any (k : Int) (w : World) : Calls Tryz.prog 47 #[.int .i64 k] w fun e w' => e = .returned (.int .i64 (fst17 k : Nat)) ∧ w = w' := by
 by_cases h1 : k = 2
 ·subst h1
  go_enter Tryz.func47, Tryz.ntmps47
  go_wp2
  go_ret
  exact ⟨rfl, rfl⟩
 ·have h1' : (k == 2) = false := by simpa using h1
  by_cases h2 : k = 3
  ·subst h2
   go_enter Tryz.func47, Tryz.ntmps47
   go_wp2
   go_ret
   exact ⟨rfl, rfl⟩
  ·have h2' : (k == 3) = false := by simpa using h2
   have e : fst17 k = 0 := by unfold fst17; rw [if_neg h1, if_neg h2]
   go_enter Tryz.func47, Tryz.ntmps47
   go_wp2
   go_ret
   exact ⟨by rw [e]; rfl, rfl⟩
def stt (ps : List Int) (f i : Nat) : List Int := ((ps.take i).drop f).filter (fun z => decide (0 < z))
theorem stt_step {ps : List Int} {f i : Nat} {z : Int} (h : ps[i]? = some z) (hf : f ≤ i) : stt ps f (i + 1) = stt ps f i ++ (if 0 < z then [z] else []) := by
 have hl := (List.getElem?_eq_some_iff.1 h).1
 have e : ps.take (i + 1) = ps.take i ++ [z] := by rw [List.take_add_one, h]; rfl
 unfold stt
 rw [e, List.drop_append_of_le_length (by rw [List.length_take]; omega), List.filter_append]
 by_cases hz : 0 < z
 ·simp [hz]
 ·simp [hz]
theorem stt_len (ps : List Int) (f i : Nat) : (stt ps f i).length ≤ ps.length := by
 unfold stt
 refine Nat.le_trans (List.length_filter_le _ _) ?_
 rw [List.length_drop, List.length_take]
 omega
theorem stt_end (ps : List Int) (f i : Nat) (h : ps.length ≤ i) : stt ps f i = (ps.drop f).filter (fun z => decide (0 < z)) := by
 unfold stt
 rw [List.take_of_length_le h]
theorem stt_none (ps : List Int) (f : Nat) : stt ps f f = [] := by
 unfold stt
 rw [List.drop_eq_nil_of_le (by rw [List.length_take]; omega)]
 rfl
theorem cell_one17 (w : World) (v : Value) (t : TypeId) : ∀ (j : Nat) u, [v][j]? = some u → (w.alloc (.cells #[v] t)).cell? ((⟨w.heap.size, 0, none⟩ : Addr).add j) = some u := by
 intro j u hj
 have hadd : (⟨w.heap.size, 0, none⟩ : Addr).add j = ⟨w.heap.size, j, none⟩ := by unfold Addr.add; split <;> simp_all
 rw [hadd, cell_of_row _ _ j #[v] t (0, 0) (heap_alloc_new w _)]
 simpa using hj
theorem info_p17 {o : Option TypeInfo} {z : Option Value} {s b : Nat} (h : o.map (fun i => (i.zero, i.size, i.bytes)) = some (z, s, b)) : ∃ i, o = some i ∧ i.zero = z ∧ i.size = s ∧ i.bytes = b := by
 cases o with
 | none => cases h
 | some i =>
  simp only [Option.map_some, Option.some.injEq, Prod.mk.injEq] at h
  exact ⟨i, rfl, h.1, h.2.1, h.2.2⟩
theorem infoI17 : (Tryz.prog.info? 3).map (fun i => (i.zero, i.size, i.bytes)) = some (some (.int .i64 0), 1, 8) := by kernel_rfl
theorem own_sl17 {w : World} {base n e size : Nat} {v : Value} {xs : List Value} (h : w.ownsRow base e size v n xs) : ∃ a cap, v = .slice a n cap := by
 rcases h.2 with ⟨rfl, rfl⟩ | ⟨g, cap, cur, rfl, _⟩
 ·exact ⟨_, _, rfl⟩
 ·exact ⟨_, _, rfl⟩
def Il (w : World) (base : Nat) (v : Value) (l : List Int) : Prop := w.ownsRow base 3 1 v l.length (Kg.ints l)
theorem Il.below {w w' : World} {base : Nat} {v : Value} {l : List Int} (h : Il w base v l) (hb : Below w.heap.size w w') : Il w' base v l :=
 Kg.row_keep2 (G := []) h (Kg.Touch.of_below hb []) (fun _ _ => by simp)
theorem Il.snoc {w w' : World} {base : Nat} {v v' : Value} {l : List Int} {x : Int} (h : Il w base v l) (h' : w'.ownsRow base 3 1 v' (l.length + 1) (Kg.ints l ++ [.int .i64 x])) (hg : (w.alloc (.cells #[.int .i64 x] 3)).grownBy w' v.ownBlock) (hb : base ≤ w.heap.size) :
  Il w' base v' (l ++ [x]) ∧ Kg.Touch v.ownBlock.toList w w' ∧ Below base w w' := by
 have t9 : Kg.Touch v.ownBlock.toList w w' := (Kg.Touch.alloc _ w (.cells #[.int .i64 x] 3)).trans (Kg.Touch.grown hg (fun k hk => by rw [Option.mem_toList]; exact hk.symm ▸ rfl))
 refine ⟨?_, t9, t9.below hb (fun k hk => ?_)⟩
 ·show w'.ownsRow _ _ _ _ (l ++ [x]).length (Kg.ints (l ++ [x]))
  rw [List.length_append, Kg.ints, List.map_append]
  exact h'
 ·rw [Option.mem_toList] at hk
  exact (World.ownsRow.lt h k hk).1
theorem strong_any (n0 : Nat) (w : World) (hn0 : n0 ≤ w.heap.size) (x : OL) (hl : Lrd n0 w x.vp .i64 x.o.ps) (hlen : x.o.ps.length ≤ 1000000000) :
  Calls Tryz.prog 21 #[.agg x.cells] w fun e w' => ∃ v, e = .returned v ∧ Il w' w.heap.size v (stg x.o) ∧ Below w.heap.size w w' := by
 obtain ⟨pa, pc, ep, -, hp⟩ := hl
 have HP : Hid (∀ (f : Nat) z, x.o.ps[f]? = some z → ∃ q off, pa = some ⟨q, off, none⟩ ∧ q < n0 ∧ w.cell? ⟨q, off + f, none⟩ = some (.int .i64 z)) := hp
 have h1 := heap_alloc_new w (.cells (ocs x.o.ser x.o.kind x.o.site (.slice pa x.o.ps.length pc) x.vr) 61 (0, 0))
 have b1 : Below w.heap.size w (w.alloc (.cells (ocs x.o.ser x.o.kind x.o.site (.slice pa x.o.ps.length pc) x.vr) 61)) := Below.alloc (Below.refl _ _) (Nat.le_refl _) _
 obtain ⟨W, hW⟩ : ∃ W, W = w.alloc (.cells (ocs x.o.ser x.o.kind x.o.site (.slice pa x.o.ps.length pc) x.vr) 61) := ⟨_, rfl⟩
 have HX : Hid (∀ w', Below W.heap.size W w' → w'.cell? ⟨w.heap.size, 1, none⟩ = some (.int .i64 x.o.kind) ∧ w'.cell? ⟨w.heap.size, 3, none⟩ = some (.slice pa x.o.ps.length pc) ∧ Below w.heap.size w w') := fun w' b' => by
  rw [hW] at b'
  have h9 := (b'.block _ (Kg.heap_lt h1)).trans h1
  exact ⟨Kg.heap_cell h9 1, Kg.heap_cell h9 3, b1.trans (b'.mono b1.size)⟩
 have HS : Hid (W.heap.size = w.heap.size + 1) := by show _ = _; rw [hW]; simp
 show Calls Tryz.prog 21 #[.agg (ocs x.o.ser x.o.kind x.o.site x.vp x.vr)] w _
 rw [ep]
 clear h1 b1 hp
 obtain ⟨f, hf⟩ : ∃ f, f = fst17 x.o.kind := ⟨_, rfl⟩
 have HF : Hid (f = fst17 x.o.kind) := hf
 have hf2 : f ≤ 2 := by rw [hf]; exact fst17_le _
 clear hf
 obtain ⟨g0, hg0⟩ : ∃ g0 : Int, g0 = if x.o.kind = 2 then 1 else 0 := ⟨_, rfl⟩
 have HG0 : Hid (g0 = if x.o.kind = 2 then 1 else 0) := hg0
 clear hg0
 obtain ⟨k1, k3, -⟩ := HX.out W (Below.refl _ _)
 go_enter Tryz.func21, Tryz.ntmps21
 go_upto_if 8 with fail
 rw [← hW]
 clear hW
 go_cut [3] from 9 to 11 (fun v wq => v = .int .i64 g0 ∧ W = wq)
 case first =>
  by_cases e1 : x.o.kind = 2
  ·have e1' : (x.o.kind == 2) = true := by simpa using e1
   have E1 : Hid (x.o.kind = 2) := e1
   clear e1
   go_wp2
   go_meet
   exact ⟨by rw [HG0.out, if_pos E1.out], rfl⟩
  ·have e1' : (x.o.kind == 2) = false := by simpa using e1
   have E1 : Hid (¬ x.o.kind = 2) := e1
   clear e1
   go_wp2
   go_meet
   exact ⟨by rw [HG0.out, if_neg E1.out], rfl⟩
 case rest =>
 obtain ⟨rfl, rfl⟩ := hcut
 apply_assumption
 go_upto_if 11 with fail
 go_cut [3] from 12 to 12 (fun v wq => v = .int .i64 (f : Nat) ∧ W = wq)
 case first =>
  by_cases e2 : x.o.kind = 3
  ·have e2' : (x.o.kind == 3) = true := by simpa using e2
   have E2 : Hid (x.o.kind = 3) := e2
   clear e2
   go_wp2
   go_meet
   exact ⟨by rw [HF.out, E2.out]; rfl, rfl⟩
  ·have e2' : (x.o.kind == 3) = false := by simpa using e2
   have E2 : Hid (¬ x.o.kind = 3) := e2
   clear e2
   go_wp2
   go_meet
   refine ⟨?_, rfl⟩
   rw [HF.out, HG0.out]
   unfold fst17
   by_cases e1 : x.o.kind = 2
   ·rw [if_pos e1, if_pos e1]; rfl
   ·rw [if_neg e1, if_neg e1, if_neg E2.out]; rfl
 case rest =>
 obtain ⟨rfl, rfl⟩ := hcut
 apply_assumption
 obtain ⟨i0, hi0, hj0, hj1, hj2⟩ := info_p17 infoI17
 have HI : Hid (Tryz.prog.info? 3 = some i0 ∧ i0.zero = some (.int .i64 0) ∧ i0.size = 1 ∧ i0.bytes = 8) := ⟨hi0, hj0, hj1, hj2⟩
 clear hi0 hj0 hj1 hj2
 go_wp2
 go_loopw [4, 5] (fun v i wr => ∃ k : Nat, f ≤ k ∧ k ≤ x.o.ps.length + 2 ∧ i = .int .i64 k ∧ Il wr (w.heap.size + 1) v (stt x.o.ps f k) ∧ Below W.heap.size W wr) (fun _ i _ => x.o.ps.length + 2 - (intOf i).toNat)
 case atStart => exact ⟨f, Nat.le_refl _, by omega, rfl, by rw [stt_none]; exact World.ownsRow_nil _ _ _ _, Below.refl _ _⟩
 case round =>
  obtain ⟨k, hfk, hk, rfl, r1, r2⟩ := hrel
  have Hr1 : Hid (Il wr (w.heap.size + 1) u4 (stt x.o.ps f k)) := r1
  have Hr2 : Hid (Below W.heap.size W wr) := r2
  clear r1 r2 k1 k3
  obtain ⟨-, k3, b3⟩ := HX.out wr Hr2.out
  have Hb3 : Hid (Below w.heap.size w wr) := b3
  clear b3
  by_cases hlt : k < x.o.ps.length
  ·obtain ⟨z, hz⟩ : ∃ z, x.o.ps[k]? = some z := ⟨_, List.getElem?_eq_getElem hlt⟩
   obtain ⟨q, off, rfl, hq, hc⟩ := HP.out k z hz
   have ck : wr.cell? ⟨q, off + k, none⟩ = some (.int .i64 z) := (Hb3.out.cell (p := ⟨q, off + k, none⟩) (Nat.lt_of_lt_of_le hq hn0)).trans hc
   have hkI : (k : Int) < (x.o.ps.length : Int) := by omega
   have HN : Hid (stt x.o.ps f (k + 1) = stt x.o.ps f k ++ (if 0 < z then [z] else [])) := stt_step hz hfk
   have hln := stt_len x.o.ps f k
   clear hz hc hq
   by_cases hp : 0 < z
   ·rw [if_pos hp] at HN
    have hp' : decide (0 < z) = true := decide_eq_true hp
    obtain ⟨a7, c7, rfl⟩ := own_sl17 Hr1.out
    have HSz : Hid (w.heap.size + 1 ≤ wr.heap.size) := by show _ ≤ _; rw [← HS.out]; exact Hr2.out.size
    have HRow : Hid ((wr.alloc (.cells #[.int .i64 z] 3)).ownsRow (w.heap.size + 1) 3 1 (.slice a7 (stt x.o.ps f k).length c7) (stt x.o.ps f k).length (Kg.ints (stt x.o.ps f k))) := Il.below Hr1.out (Below.alloc (Below.refl _ _) (Nat.le_refl _) _)
    go_wp2_with (at_builtin; refine wpList_append_own_at _ rfl _ _ 24 rfl (w.heap.size + 1) 3 i0 (.int .i64 0) 1 8 Tryz.underlying24 HI.out.1 HI.out.2.1 HI.out.2.2.1 HI.out.2.2.2 rfl (by decide) _ _ _ rfl HRow.out ⟨wr.heap.size, 0, none⟩ 1 1 [.int .i64 z] rfl rfl (cell_one17 _ _ _) (by simp [Value.oneCell']) (by simp only [maxLen]; omega) (by omega) (by have := HSz.out; simp; omega) ?_; intro v8 w8 h8 g8 _ _)
    go_roundw
    case rel =>
     obtain ⟨y1, y2, y3⟩ := Il.snoc Hr1.out h8 g8 HSz.out
     exact ⟨k + 1, by omega, by omega, by go_num, by rw [HN.out]; exact y1, Hr2.out.trans (by rw [HS.out]; exact y3)⟩
    case measure => simp [intOf]; omega
   ·rw [if_neg hp, List.append_nil] at HN
    have hp' : decide (0 < z) = false := decide_eq_false hp
    go_wp2
    go_roundw
    case rel => exact ⟨k + 1, by omega, by omega, by go_num, by rw [HN.out]; exact Hr1.out, Hr2.out⟩
    case measure => simp [intOf]; omega
  ·have hkI : ¬ (k : Int) < (x.o.ps.length : Int) := by omega
   have HE : Hid (stt x.o.ps f k = stg x.o) := by
    show _ = _
    rw [stt_end x.o.ps f k (by omega), HF.out]
    rfl
   rw [HE.out] at Hr1
   go_wp2
   go_ret
   exact ⟨_, rfl, Kg.row_base Hr1.out (by omega), Hb3.out⟩
end Go.Proofs.YtckgcpoheodbcaaGreatDoor
namespace Go.Proofs.YtckgcpoheodbcaaGreatDoor
open Go.RowKit Go.Shelf Go.Proofs.YtckgcpoheodbcaaGreatDoor.Lp
end Go.Proofs.YtckgcpoheodbcaaGreatDoor
