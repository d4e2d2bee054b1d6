import Derived.Test.YtckgcpoheodbcaaGreatDoorQ07
import Derived.Test.YtckgcpoheodbcaaGreatDoorQ09
import Derived.Test.YtckgcpoheodbcaaGreatDoorQ02
import Derived.Shelf.SlicesE.DeleteFunc
import Derived.Ground.SlgfProg
import Derived.Shelf.SlGeneric
import Derived.Test.YtckgcpoheodbcaaGreatDoorProg
import Derived.Shelf.Small.Wraps
import Derived.Ground.Names2Prog
import Derived.Shelf.Slices.Delete
import Derived.Lib.OwnBridge
import Derived.RegionTactic
import Derived.ChangeAlike
import Derived.BigRegion
import Derived.Deep.RegionWith
set_option linter.unusedVariables false
set_option maxHeartbeats 8000000
set_option maxRecDepth 20000
namespace Go.Proofs.YtckgcpoheodbcaaGreatDoor
open Go.RowKit Go.Shelf
theorem rCheck_any (n0 : Nat) (w : World) (vo vs vh vr vq : Value) (os : List OL) (ts : List (Value × List (Value × List Int))) (g : Im.Gr) (hg : Grd n0 w vo vs vh vr vq os ts g) (hn : n0 ≤ w.heap.size) (hl : Gln os ts g) :
  Calls Tryz.prog 20 #[.agg (gcs vo vs vh vr vq g.next)] w fun e w' => ∃ r : Int, e = .returned (.int .i64 r) ∧ Below w.heap.size w w' ∧ ((r = 0 ∧ MB g) ∨ (r = 164 ∧ ¬ MB g)) := by
 have l1 : Below w.heap.size w (w.alloc (.cells (gcs vo vs vh vr vq g.next) 27)) := Below.alloc (Below.refl _ _) (Nat.le_refl _) _
 have hy := fun j => cell_of_row _ _ j _ _ _ (heap_alloc_new w (.cells (gcs vo vs vh vr vq g.next) 27 (0, 0)))
 generalize hw1 : w.alloc (.cells (gcs vo vs vh vr vq g.next) 27) = w1 at *
 have e1 : w1.heap.size = w.heap.size + 1 := by rw [← hw1]; simp
 have HK : Hid (∀ w', Below w1.heap.size w1 w' → w'.cell? ⟨w.heap.size, 0, none⟩ = some vo ∧ w'.cell? ⟨w.heap.size, 1, none⟩ = some vs ∧ w'.cell? ⟨w.heap.size, 2, none⟩ = some vh ∧ w'.cell? ⟨w.heap.size, 3, none⟩ = some vr ∧ w'.cell? ⟨w.heap.size, 4, none⟩ = some vq ∧ w'.cell? ⟨w.heap.size, 5, none⟩ = some (.int .u64 g.next)) := fun w' b' => by
  have hlt : w.heap.size < w1.heap.size := by omega
  exact ⟨(b'.cell (p := ⟨w.heap.size, 0, none⟩) hlt).trans (hy 0), (b'.cell (p := ⟨w.heap.size, 1, none⟩) hlt).trans (hy 1), (b'.cell (p := ⟨w.heap.size, 2, none⟩) hlt).trans (hy 2), (b'.cell (p := ⟨w.heap.size, 3, none⟩) hlt).trans (hy 3), (b'.cell (p := ⟨w.heap.size, 4, none⟩) hlt).trans (hy 4), (b'.cell (p := ⟨w.heap.size, 5, none⟩) hlt).trans (hy 5)⟩
 have HG : Hid (∀ w', Below w1.heap.size w1 w' → Below w.heap.size w w' ∧ n0 ≤ w'.heap.size ∧ Grd n0 w' vo vs vh vr vq os ts g) := fun w' b' => by
  have h9 := l1.trans (b'.mono l1.size)
  exact ⟨h9, Nat.le_trans hn h9.size, hg.below (h9.mono hn)⟩
 have Hl : Hid (Gln os ts g) := hl
 obtain ⟨k0, k1, k2, k3, k4, k5⟩ := HK.out w1 (Below.refl _ _)
 have HB1 : Hid (Below w1.heap.size w1 w1) := Below.refl _ _
 obtain ⟨aa, ac, rfl, -⟩ := hg.ob
 obtain ⟨ba, bc, rfl, -⟩ := hg.sl
 obtain ⟨ca, cc, rfl, -, -⟩ := hg.hs
 obtain ⟨da, dc, rfl, -, -⟩ := hg.rg
 obtain ⟨ea, ec, rfl, -, -⟩ := hg.qu
 have hO := calls_def (rObjects_any n0 w1 _ _ _ _ _ os ts g (HG.out w1 HB1.out).2.2 (HG.out w1 HB1.out).2.1 Hl.out.o)
 clear hg hl hy
 go_enter Tryz.func20, Tryz.ntmps20
 by_cases pO : OM g
 ·have hc := hO.1 pO
  clear hO
  go_wp2_with fail
  refine hc.mono ?_
  rintro e w2 ⟨rfl, b2⟩
  have HB2 : Hid (Below w1.heap.size w1 w2) := HB1.out.trans (b2.mono HB1.out.size)
  clear hc b2 k0 k1 k2 k3 k4 k5
  obtain ⟨k0, k1, k2, k3, k4, k5⟩ := HK.out w2 HB2.out
  have hS := calls_def (rSlots_any n0 w2 _ _ _ _ _ os ts g (HG.out w2 HB2.out).2.2 (HG.out w2 HB2.out).2.1 Hl.out.o Hl.out.s Hl.out.h)
  by_cases pS : SH g
  ·have hc := hS.1 pS
   clear hS
   go_wp2_with fail
   refine hc.mono ?_
   rintro e w3 ⟨rfl, b3⟩
   have HB3 : Hid (Below w1.heap.size w1 w3) := HB2.out.trans (b3.mono HB2.out.size)
   clear hc b3 k0 k1 k2 k3 k4 k5
   obtain ⟨k0, k1, k2, k3, k4, k5⟩ := HK.out w3 HB3.out
   have hF := calls_def (rLists_any n0 w3 _ _ _ _ _ os ts g (HG.out w3 HB3.out).2.2 (HG.out w3 HB3.out).2.1 Hl.out.o Hl.out.r Hl.out.q)
   by_cases pF : FM g
   ·have hc := hF.1 pF
    clear hF
    go_wp2_with fail
    refine hc.mono ?_
    rintro e w5 ⟨rfl, b5⟩
    have HB5 : Hid (Below w1.heap.size w1 w5) := HB3.out.trans (b5.mono HB3.out.size)
    clear hc b5 k0 k1 k2 k3 k4 k5
    obtain ⟨k0, k1, k2, k3, k4, k5⟩ := HK.out w5 HB5.out
    have hA := calls_def (rKnown_any n0 w5 _ _ _ _ _ os ts g (HG.out w5 HB5.out).2.2 (HG.out w5 HB5.out).2.1 Hl.out.s Hl.out.o Hl.out.e (root_le pS.s pS.h pF) (fun o ho z hz => by
     have := pO.ptrs o ho z hz
     simp [inB] at this
     exact this.2))
    by_cases pA : AK g
    ·have hc := hA.1 pA
     have Hr : Hid (MB g) := ⟨pO, pS.s, pS.h, pF, pA⟩
     clear hA
     go_wp2_with fail
     refine hc.mono ?_
     rintro e w6 ⟨rfl, b6⟩
     have HB6 : Hid (Below w1.heap.size w1 w6) := HB5.out.trans (b6.mono HB5.out.size)
     clear hc b6 k0 k1 k2 k3 k4 k5
     go_wp2
     go_ret
     exact ⟨0, rfl, (HG.out _ HB6.out).1, .inl ⟨rfl, Hr.out⟩⟩
    ·have hc := hA.2 pA
     have Hr : Hid (¬ MB g) := fun h => pA h.k
     clear hA
     go_wp2_with fail
     refine hc.mono ?_
     rintro e w6 ⟨rfl, b6⟩
     have HB6 : Hid (Below w1.heap.size w1 w6) := HB5.out.trans (b6.mono HB5.out.size)
     clear hc b6 k0 k1 k2 k3 k4 k5
     go_wp2
     go_ret
     exact ⟨164, rfl, (HG.out _ HB6.out).1, .inr ⟨rfl, Hr.out⟩⟩
   ·have hc := hF.2 pF
    have Hn : Hid (¬ MB g) := fun h => pF h.f
    clear hF
    go_wp2_with fail
    refine hc.mono ?_
    rintro e w5 ⟨rfl, b5⟩
    have HB5 : Hid (Below w1.heap.size w1 w5) := HB3.out.trans (b5.mono HB3.out.size)
    clear hc b5 k0 k1 k2 k3 k4 k5
    go_wp2
    go_ret
    exact ⟨164, rfl, (HG.out _ HB5.out).1, .inr ⟨rfl, Hn.out⟩⟩
  ·have hc := hS.2 pS
   have Hn : Hid (¬ MB g) := fun h => pS ⟨h.s, h.h⟩
   clear hS
   go_wp2_with fail
   refine hc.mono ?_
   rintro e w3 ⟨rfl, b3⟩
   have HB3 : Hid (Below w1.heap.size w1 w3) := HB2.out.trans (b3.mono HB2.out.size)
   clear hc b3 k0 k1 k2 k3 k4 k5
   go_wp2
   go_ret
   exact ⟨164, rfl, (HG.out _ HB3.out).1, .inr ⟨rfl, Hn.out⟩⟩
 ·have hc := hO.2 pO
  have Hn : Hid (¬ MB g) := fun h => pO h.o
  clear hO
  go_wp2_with fail
  refine hc.mono ?_
  rintro e w2 ⟨rfl, b2⟩
  have HB2 : Hid (Below w1.heap.size w1 w2) := HB1.out.trans (b2.mono HB1.out.size)
  clear hc b2 k0 k1 k2 k3 k4 k5
  go_wp2
  go_ret
  exact ⟨164, rfl, (HG.out _ HB2.out).1, .inr ⟨rfl, Hn.out⟩⟩
def rtl (g : Im.Gr) : List Int := ((slotsF g.slots ++ g.hs) ++ g.qu).filter (fun z => decide (0 < z))
theorem mayBe_any (n0 : Nat) (w : World) (vo vs vh vr vq : Value) (os : List OL) (ts : List (Value × List (Value × List Int))) (g : Im.Gr) (hg : Grd n0 w vo vs vh vr vq os ts g) (hn : n0 ≤ w.heap.size) (hL : Laid w) (hl : Gln os ts g) :
  Calls Tryz.prog 17 #[.agg (gcs vo vs vh vr vq g.next)] w fun e w' => ∃ r : Bool, e = .returned (.bool r) ∧ Below w.heap.size w w' ∧ (r = true ↔ MB g) := by
 have l1 : Below w.heap.size w (w.alloc (.cells (gcs vo vs vh vr vq g.next) 27)) := Below.alloc (Below.refl _ _) (Nat.le_refl _) _
 have hx := heap_alloc_new w (.cells (gcs vo vs vh vr vq g.next) 27 (0, 0))
 generalize hW : w.alloc (.cells (gcs vo vs vh vr vq g.next) 27) = W at *
 have y0 : W.cell? ⟨w.heap.size, 0, none⟩ = some vo := Kg.heap_cell hx 0
 have y1 : W.cell? ⟨w.heap.size, 1, none⟩ = some vs := Kg.heap_cell hx 1
 have y2 : W.cell? ⟨w.heap.size, 2, none⟩ = some vh := Kg.heap_cell hx 2
 have y3 : W.cell? ⟨w.heap.size, 3, none⟩ = some vr := Kg.heap_cell hx 3
 have y4 : W.cell? ⟨w.heap.size, 4, none⟩ = some vq := Kg.heap_cell hx 4
 have y5 : W.cell? ⟨w.heap.size, 5, none⟩ = some (.int .u64 (g.next : Int)) := Kg.heap_cell hx 5
 have q := iCheck_any n0 W vo vs vh vr vq os ts g (hg.below (l1.mono hn)) (Nat.le_trans hn l1.size) (hL.keep l1) hl
 have HL1 : Hid _ := l1
 clear hg hL hl hx l1
 go_enter Tryz.func17, Tryz.ntmps17
 go_wp2_with fail
 refine q.mono ?_
 rintro e w1 ⟨r, rfl, b1, hr⟩
 have HB : Hid (Below w.heap.size w w1) := HL1.out.trans (b1.mono HL1.out.size)
 have HR : Hid ((r = 0 ∧ MB g) ∨ (r = 164 ∧ ¬ MB g)) := hr
 clear q b1 hr y0 y1 y2 y3 y4 y5
 go_wp2
 go_ret
 refine ⟨_, rfl, HB.out, ?_⟩
 rcases HR.out with ⟨rfl, h⟩ | ⟨rfl, h⟩
 ·simp [h]
 ·simp [h]
end Go.Proofs.YtckgcpoheodbcaaGreatDoor
namespace Go.Proofs.YtckgcpoheodbcaaGreatDoor
open Go.RowKit Go.Shelf Go.Proofs.YtckgcpoheodbcaaGreatDoor.Lp
structure Fw (w : World) (fb m : Nat) (fa : Nat → Nat) : Prop where
 ex : ∃ cs, w.heap[fb]? = some (.cells cs 3 (0, 0)) ∧ cs.size = m ∧ ∀ x, x < m → cs[x]? = some (.int .i64 (fa x : Nat))
theorem make_ints17 (m : Nat) (hm : m ≤ 1000000000001) : ∀ w, (Instr.makeSlice 24 (.int .i64 (m : Int)) (.int .i64 (m : Int))).run Tryz.prog w = .ok (.slice (some ⟨w.heap.size, 0, none⟩) m m) (w.alloc (.cells (madeCells #[.int .i64 0] m) 3)) := fun w => by
 obtain ⟨i0, hi0, hz0, hz1, hz2⟩ := info_p17 infoI17
 have := run_make (P := Tryz.prog) w 24 3 i0 (.int .i64 0) Tryz.underlying24 hi0 hz0 .i64 .i64 m m (by omega) (Int.le_refl _) (by rw [hz2]; omega) (by omega)
 rw [hz1, Nat.mul_one] at this
 exact this
theorem Fw.new (w : World) (m : Nat) : Fw (w.alloc (.cells (madeCells #[.int .i64 0] m) 3)) w.heap.size m (fun _ => 0) :=
 ⟨_, heap_alloc_new w _, by simp [madeCells], fun x hx => by simp [madeCells, hx, Nat.mod_one]⟩
end Go.Proofs.YtckgcpoheodbcaaGreatDoor
namespace Go.Proofs.YtckgcpoheodbcaaGreatDoor.Lp
def byv (seq : List Nat) (by' : Nat → Nat) (y : Nat) : Int := if y ∈ seq then (by' y : Int) else -1
theorem byv_neg {seq : List Nat} {by' : Nat → Nat} {x : Nat} : byv seq by' x = -1 ↔ x ∉ seq := by
 unfold byv
 by_cases h2 : x ∈ seq
 ·rw [if_pos h2]; exact ⟨fun e => by omega, fun e => absurd h2 e⟩
 ·rw [if_neg h2]; exact ⟨fun _ => h2, fun _ => rfl⟩
variable {W : Nat → List Nat} {seq : List Nat} {k : Nat} {by' dep pos : Nat → Nat}
end Go.Proofs.YtckgcpoheodbcaaGreatDoor.Lp
namespace Go.Proofs.YtckgcpoheodbcaaGreatDoor
open Go.RowKit Go.Shelf Go.Proofs.YtckgcpoheodbcaaGreatDoor.Lp
def wy17 (g : Im.Gr) : Nat → List Nat
 | 0 => (rtl g).map Int.toNat
 | i + 1 => match g.obs[i]? with
  | some o => (stg o).map Int.toNat
  | none => []
def rw17 (g : Im.Gr) : Nat → List Int
 | 0 => (g.hs ++ g.qu ++ slotsF g.slots).filter (fun z => !decide (z < 1))
 | i + 1 => match g.obs[i]? with
  | some o => o.ps.drop (fst17 o.kind)
  | none => []
theorem inB_iff {lo hi z : Int} : inB lo hi z = true ↔ lo ≤ z ∧ z ≤ hi := by
 unfold inB
 rw [Bool.and_eq_true, decide_eq_true_iff, decide_eq_true_iff]
theorem rtl_in {g : Im.Gr} (h : MB g) {z : Int} (hz : z ∈ rtl g) : 1 ≤ z ∧ z ≤ g.obs.length := by
 unfold rtl at hz
 rw [List.mem_filter] at hz
 have h0 : 0 < z := of_decide_eq_true hz.2
 rcases List.mem_append.1 hz.1 with h1 | h1
 ·rcases List.mem_append.1 h1 with h1 | h1
  ·obtain ⟨t, ht, f, hf, hz'⟩ := (mem_slotsF _ _).1 h1
   have := inB_iff.1 ((h.s.ok t ht f hf).2 z hz')
   omega
  ·have := inB_iff.1 (h.h.all z h1)
   omega
 ·have := inB_iff.1 (h.f.que z h1)
  omega
theorem ps_in {g : Im.Gr} (h : MB g) {i : Nat} {o : Im.Ob} (ho : g.obs[i]? = some o) {z : Int} (hz : z ∈ o.ps) : 0 ≤ z ∧ z ≤ g.obs.length := inB_iff.1 (h.o.ptrs o (List.mem_of_getElem? ho) z hz)
theorem stg_in {g : Im.Gr} (h : MB g) {i : Nat} {o : Im.Ob} (ho : g.obs[i]? = some o) {z : Int} (hz : z ∈ stg o) : 1 ≤ z ∧ z ≤ g.obs.length := by
 unfold stg at hz
 rw [List.mem_filter] at hz
 have h0 : 0 < z := of_decide_eq_true hz.2
 have := ps_in h ho (List.mem_of_mem_drop hz.1)
 omega
theorem toNat_back (l : List Int) (h : ∀ z, z ∈ l → 0 ≤ z) : l = (l.map Int.toNat).map Int.ofNat := by
 rw [List.map_map]
 conv => lhs; rw [← List.map_id l]
 refine List.map_congr_left (fun z hz => ?_)
 show z = Int.ofNat z.toNat
 rw [Int.ofNat_eq_natCast, Int.toNat_of_nonneg (h z hz)]
theorem wy_root {g : Im.Gr} (h : MB g) : rtl g = (wy17 g 0).map Int.ofNat := toNat_back _ (fun z hz => by have := rtl_in h hz; omega)
theorem wy_obj {g : Im.Gr} (h : MB g) {i : Nat} {o : Im.Ob} (ho : g.obs[i]? = some o) : stg o = (wy17 g (i + 1)).map Int.ofNat := by
 have e : wy17 g (i + 1) = (stg o).map Int.toNat := by simp only [wy17, ho]
 rw [e]
 exact toNat_back _ (fun z hz => by have := stg_in h ho hz; omega)
theorem wy_in {g : Im.Gr} (h : MB g) : ∀ z y, y ∈ wy17 g z → 1 ≤ y ∧ y ≤ g.obs.length := by
 intro z y hy
 cases z with
 | zero =>
  obtain ⟨x, hx, rfl⟩ := List.mem_map.1 hy
  have := rtl_in h hx
  omega
 | succ i =>
  cases ho : g.obs[i]? with
  | none => simp [wy17, ho] at hy
  | some o =>
   simp only [wy17, ho] at hy
   obtain ⟨x, hx, rfl⟩ := List.mem_map.1 hy
   have := stg_in h ho hx
   omega
theorem rw_in {g : Im.Gr} (h : MB g) : ∀ (n : Nat) z, z ∈ rw17 g n → 0 ≤ z ∧ z ≤ g.obs.length := by
 intro n z hz
 cases n with
 | zero =>
  unfold rw17 at hz
  rw [List.mem_filter] at hz
  have h0 : 0 < z := by
   have h9 := hz.2
   simp only [Bool.not_eq_true', decide_eq_false_iff_not] at h9
   omega
  have := rtl_in h (z := z) (by
   unfold rtl
   rw [List.mem_filter]
   refine ⟨?_, decide_eq_true h0⟩
   have h1 := hz.1
   simp only [List.mem_append] at h1 ⊢
   rcases h1 with (h1 | h1) | h1
   ·exact .inl (.inr h1)
   ·exact .inr h1
   ·exact .inl (.inl h1))
  omega
 | succ i =>
  cases ho : g.obs[i]? with
  | none => simp [rw17, ho] at hz
  | some o =>
   simp only [rw17, ho] at hz
   exact ps_in h ho (List.mem_of_mem_drop hz)
theorem wy_rw {g : Im.Gr} (h : MB g) (n y : Nat) : y ∈ wy17 g n ↔ (y : Int) ∈ rw17 g n ∧ y ≠ 0 := by
 cases n with
 | zero =>
  have e : y ∈ wy17 g 0 ↔ (y : Int) ∈ rtl g := by
   conv => rhs; rw [wy_root h]
   rw [List.mem_map]
   constructor
   ·intro hy; exact ⟨y, hy, rfl⟩
   ·rintro ⟨x, hx, e⟩
    have : x = y := Int.ofNat.inj e
    rwa [← this]
  rw [e]
  unfold rtl rw17
  rw [List.mem_filter, List.mem_filter]
  simp only [List.mem_append, decide_eq_true_eq, Bool.not_eq_true', decide_eq_false_iff_not]
  constructor
  ·rintro ⟨(h1 | h1) | h1, h2⟩
   ·exact ⟨⟨.inr h1, by omega⟩, by omega⟩
   ·exact ⟨⟨.inl (.inl h1), by omega⟩, by omega⟩
   ·exact ⟨⟨.inl (.inr h1), by omega⟩, by omega⟩
  ·rintro ⟨⟨(h1 | h1) | h1, h2⟩, h3⟩
   ·exact ⟨.inl (.inr h1), by omega⟩
   ·exact ⟨.inr h1, by omega⟩
   ·exact ⟨.inl (.inl h1), by omega⟩
 | succ i =>
  cases ho : g.obs[i]? with
  | none => simp [wy17, rw17, ho]
  | some o =>
   have e : y ∈ wy17 g (i + 1) ↔ (y : Int) ∈ stg o := by
    conv => rhs; rw [wy_obj h ho]
    rw [List.mem_map]
    constructor
    ·intro hy; exact ⟨y, hy, rfl⟩
    ·rintro ⟨x, hx, e⟩
     have : x = y := Int.ofNat.inj e
     rwa [← this]
   rw [e]
   unfold stg
   simp only [rw17, ho]
   rw [List.mem_filter]
   simp only [decide_eq_true_eq]
   constructor
   ·rintro ⟨h1, h2⟩; exact ⟨h1, by omega⟩
   ·rintro ⟨h1, h2⟩; exact ⟨h1, by omega⟩
theorem fst_le {g : Im.Gr} (h : MB g) {o : Im.Ob} (ho : o ∈ g.obs) : fst17 o.kind ≤ o.ps.length ∧ o.ps.length ≤ 4095 := by
 have h1 := h.o.head o ho
 unfold hd16 flt at h1
 unfold fst17
 split at h1
 ·omega
 ·split at h1
  ·omega
  ·split
   ·omega
   ·split <;> omega
structure Fz (w : World) (fb m : Nat) (fa : Nat → Int) : Prop where
 ex : ∃ cs, w.heap[fb]? = some (.cells cs 3 (0, 0)) ∧ cs.size = m ∧ ∀ x, x < m → cs[x]? = some (.int .i64 (fa x))
theorem Fz.lt {w : World} {fb m : Nat} {fa : Nat → Int} (h : Fz w fb m fa) : fb < w.heap.size := by
 obtain ⟨cs, h1, -⟩ := h.ex
 exact Kg.heap_lt h1
theorem Il.at_ {w w' : World} {base : Nat} {v : Value} {l : List Int} {F : List Nat} (h : Il w base v l) (ht : Kg.Touch F w w') (hF : ∀ k, k ∈ F → k < base) :
  ∃ a cap, v = .slice a l.length cap ∧ ∀ (f : Nat) z, l[f]? = some z → ∃ q, a = some ⟨q, 0, none⟩ ∧ base ≤ q ∧ q < w.heap.size ∧ w'.cell? ⟨q, f, none⟩ = some (.int .i64 z) := by
 have h' : w'.ownsRow base 3 1 v l.length (Kg.ints l) := Kg.row_keep2 h ht (fun k hk hkF => by
  have := (World.ownsRow.lt h k hk).1
  have := hF k hkF
  omega)
 obtain ⟨a, cap, e, -, hc⟩ := row_at (Kg.row_base h' (Nat.zero_le _)) (by decide)
 refine ⟨a, cap, e, fun f z hz => ?_⟩
 obtain ⟨q, h1, -, h3⟩ := hc f (.int .i64 z) (by rw [Kg.ints, List.getElem?_map, hz]; rfl)
 have h4 := World.ownsRow.lt h q (by rw [e, h1]; rfl)
 exact ⟨q, h1, h4.1, h4.2, h3⟩
theorem Il.lrd {w : World} {base : Nat} {v : Value} {l : List Int} (h : Il w base v l) : Lrd w.heap.size w v .i64 l := Lrd.of_row (Kg.row_base h (Nat.zero_le _))
end Go.Proofs.YtckgcpoheodbcaaGreatDoor
namespace Go.Proofs
open Go.Shelf
def Tryz.delFA_ren : Go.Shelf.Ren := ⟨fun | 10 => 74 | 6 => 101 | n => n, fun | 22 => 24 | 23 => 3 | 25 => 93 | 3 => 3 | 4 => 4 | 0 => 0 | n => n, fun | n => n⟩
theorem Tryz.delFA : Go.Proofs.SlLaysH.n10 Tryz.prog Tryz.delFA_ren := {
 mixed := by kernel_rfl
 f6 := ⟨Tryz.f101.name, by decide, Tryz.func101.trans (congrArg some (by kernel_rfl))⟩
 f10 := ⟨Tryz.f74.name, by decide, Tryz.func74.trans (congrArg some (by kernel_rfl))⟩
 t0 := Tryz.underlying0
 a0 := Tryz.isAgg0
 z0 := Tryz.sizeOf0
 v0 := Tryz.zeroValue0
 t3 := Tryz.underlying3
 a3 := Tryz.isAgg3
 z3 := Tryz.sizeOf3
 v3 := Tryz.zeroValue3
 t4 := Tryz.underlying4
 a4 := Tryz.isAgg4
 z4 := Tryz.sizeOf4
 v4 := Tryz.zeroValue4
 t22 := Tryz.underlying24
 a22 := Tryz.isAgg24
 z22 := Tryz.sizeOf24
 v22 := Tryz.zeroValue24
 a23 := Tryz.isAgg3
 z23 := Tryz.sizeOf3
 t25 := Tryz.underlying93
 a25 := Tryz.isAgg93
 z25 := Tryz.sizeOf93
 v25 := Tryz.zeroValue93 }
def Tryz.laysNm223_ren : Go.Shelf.Ren := ⟨fun | 23 => 96 | n => n, fun | 22 => 24 | 3 => 3 | 4 => 4 | 0 => 0 | n => n, fun | n => n⟩
theorem Tryz.laysNm223 : Go.Proofs.Lays2.n23 Tryz.prog Tryz.laysNm223_ren := {
 mixed := by kernel_rfl
 f23 := Tryz.func96.trans (congrArg some (by kernel_rfl))
 t0 := Tryz.underlying0
 a0 := Tryz.isAgg0
 z0 := Tryz.sizeOf0
 v0 := Tryz.zeroValue0
 t3 := Tryz.underlying3
 a3 := Tryz.isAgg3
 z3 := Tryz.sizeOf3
 v3 := Tryz.zeroValue3
 t4 := Tryz.underlying4
 a4 := Tryz.isAgg4
 z4 := Tryz.sizeOf4
 v4 := Tryz.zeroValue4
 t22 := Tryz.underlying24
 a22 := Tryz.isAgg24
 z22 := Tryz.sizeOf24
 v22 := Tryz.zeroValue24
 i3 := by kernel_rfl }
open Go.RowKit Go.Lib Go.Sort in
theorem Tryz.slices_Delete_int (blk off cap i j : Nat) (zs : List Int) (w : World) (hH : Holds (Value.int .i64) w blk off zs.toArray) (hcap : zs.length ≤ cap) (hm : cap ≤ 9223372036854775807) (hij : i ≤ j) (hj : j ≤ zs.length) :
  Calls Tryz.prog 96 #[.slice (some ⟨blk, off, none⟩) zs.length cap, .int .i64 i, .int .i64 j] w fun e w' => e = .returned (.slice (some ⟨blk, off, none⟩) (zs.length - (j - i)) cap) ∧ ∃ q, w' = putRow (Value.int .i64) (Sort.ahead w q) blk off (zs.take i ++ zs.drop j ++ List.replicate (j - i) 0).toArray := Any.slices_Delete_int Tryz.laysNm223 blk off cap i j zs w hH hcap hm hij hj
end Go.Proofs
namespace Go.Proofs.YtckgcpoheodbcaaGreatDoor.Kg
open Go.RowKit
theorem full_any (h m : Int) (w : World) :
  Calls Tryz.prog 71 #[.int .i64 h, .int .i64 m] w fun e w' => e = .returned (.bool (decide (0 < m ∧ m ≤ h))) ∧ w' = w := by
 by_cases h1 : 0 < m
 ·by_cases h2 : m ≤ h
  ·go_enter Tryz.func71, Tryz.ntmps71
   go_wp2
   go_ret
   simp [h1, h2]
  ·go_enter Tryz.func71, Tryz.ntmps71
   go_wp2
   go_ret
   simp [h2]
 ·go_enter Tryz.func71, Tryz.ntmps71
  go_wp2
  go_ret
  simp
  omega
end Go.Proofs.YtckgcpoheodbcaaGreatDoor.Kg
namespace Go.Proofs.YtckgcpoheodbcaaGreatDoor
open Go.RowKit Go.Shelf Go.Lib Go.Sort Go.Proofs.YtckgcpoheodbcaaGreatDoor.Lp
theorem frd_two {n0 : Nat} {w : World} {v1 v2 : Value} {l1 l2 : List Int} (h1 : Lrd n0 w v1 .i64 l1) (h2 : Lrd n0 w v2 .i64 l2) (hn : n0 ≤ w.heap.size) :
  Frd (w.heap.size + 1) (w.alloc (.cells #[v1, v2] 24)) (.slice (some ⟨w.heap.size, 0, none⟩) 2 2) [(v1, l1), (v2, l2)] := by
 have hb : Below n0 w (w.alloc (.cells #[v1, v2] 24)) := Below.alloc (Below.refl _ _) hn _
 have hy := fun j => cell_of_row _ _ j _ _ _ (heap_alloc_new w (.cells #[v1, v2] 24 (0, 0)))
 refine ⟨_, _, rfl, fun i x hx => ?_⟩
 match i, hx with
 | 0, hx => cases hx; exact ⟨(h1.below hb).mono (by omega), _, _, rfl, Nat.lt_succ_self _, hy 0⟩
 | 1, hx => cases hx; exact ⟨(h2.below hb).mono (by omega), _, _, rfl, Nat.lt_succ_self _, hy 1⟩
 | i + 2, hx => cases hx
theorem below1_any (x : Int) (w : World) : Calls Tryz.prog 75 #[.int .i64 x] w fun e w' => e = .returned (.bool (decide (x < 1))) ∧ ∃ q, w' = w.drewN q := by
 go_enter Tryz.func75, Tryz.ntmps75
 go_wp2
 go_ret
 exact ⟨rfl, 0, rfl⟩
theorem below1_enters : ∀ args w, (callFunc 75 args).run Tryz.prog w = .ok (.enter 75 args) w := enters_of Tryz.func75 (by kernel_rfl) rfl
theorem touch_putRow17 {enc : Int → Value} {w : World} {g q : Nat} {d : Array Int} : Kg.Touch [g] w (Sort.putRow enc (Sort.ahead w q) g 0 d) :=
 ⟨rfl, rfl, rfl, by simp [Sort.putRow, Sort.mapBlock, Sort.ahead], fun k _ hn => by
  have : g ≠ k := fun e => hn (by simp [e])
  simp [Sort.putRow, Sort.mapBlock, Sort.ahead, Array.getElem?_modify, this]⟩
theorem delF_any (base : Nat) (v : Value) (l : List Int) (w : World) (h : Il w base v l) (hl : l.length ≤ 1000000000000) :
  Calls Tryz.prog 74 #[v, .func (.func 75) #[] #[]] w fun e w' => ∃ v', e = .returned v' ∧ Il w' base v' (l.filter (fun z => !decide (z < 1))) ∧ Below base w w' := by
 rcases h.2 with ⟨rfl, h0⟩ | ⟨g, cap, cur, rfl, hb, hg, hn, hm, hcs, htk⟩
 ·obtain rfl : l = [] := List.eq_nil_of_length_eq_zero h0
  have q := AnyE.slices_IndexFunc_empty (P := Tryz.prog) (ρ := Tryz.delFA_ren) { Tryz.delFA with } none 0 (.func (.func 75) #[] #[]) w
  have q : Calls Tryz.prog 101 #[.slice none 0 0, .func (.func 75) #[] #[]] w _ := q
  clear h
  go_enter Tryz.func74, Tryz.ntmps74
  go_wp2_with fail
  refine q.mono ?_
  rintro e w1 ⟨rfl, rfl⟩
  go_wp2
  go_ret
  exact ⟨_, rfl, World.ownsRow_nil _ _ _ _, Below.refl _ _⟩
 ·obtain ⟨g', cap', hv, hb', hlt, hn', hm', _, hH⟩ := Lib.holds_of_ownsRow h (by simp)
  simp only [Value.slice.injEq, Option.some.injEq, Addr.mk.injEq, true_and, and_true] at hv
  obtain ⟨rfl, rfl⟩ := hv
  have q := AnyE.slices_DeleteFunc (P := Tryz.prog) (ρ := Tryz.delFA_ren) Tryz.delFA (Value.int .i64) (fun _ => rfl) (fun z => decide (z < 1)) 75 #[] below1_enters 0 Tryz.zeroValue3 g 0 cap l.toArray w (fun W x _ => below1_any x W) (fun n os dk x _ => below1_any x _) hH (by simp; omega) (by simpa using hn)
  simp only [List.size_toArray] at q
  have hfl : (l.filter (fun z => !decide (z < 1))).length ≤ l.length := List.length_filter_le _ _
  refine Calls.mono (show Calls Tryz.prog 74 _ _ _ from q) ?_
  rintro e w' ⟨rfl, q', rfl⟩
  have h2 := Lib.ownsRow_putRow (q := q') (k := (l.filter (fun z => !decide (z < 1))).length) (ys := l.filter (fun z => !decide (z < 1)) ++ List.replicate (l.length - (l.filter (fun z => !decide (z < 1))).length) 0) h (by simp; omega) hfl
  rw [List.take_left' rfl] at h2
  exact ⟨_, rfl, h2, touch_putRow17.below (Nat.le_trans hb (Nat.le_of_lt hlt)) (fun k hk => by rw [List.mem_singleton] at hk; rw [hk]; exact hb)⟩
theorem rootsOf_any (n0 : Nat) (w : World) (vo vs vh vr vq : Value) (os : List OL) (ts : List (Value × List (Value × List Int))) (g : Im.Gr) (hg : Grd n0 w vo vs vh vr vq os ts g) (hn : n0 ≤ w.heap.size) (hs : Sln ts) (hlen : (g.hs ++ g.qu).length + (slotsF g.slots).length ≤ 1000000000) :
  Calls Tryz.prog 46 #[.agg (gcs vo vs vh vr vq g.next)] w fun e w' => ∃ v, e = .returned v ∧ Il w' w.heap.size v (rw17 g 0) ∧ Below w.heap.size w w' := by
 obtain ⟨i0, hi0, hj0, hj1, hj2⟩ := info_parts Kg.Tryz.infoInt
 have HI : Hid (Tryz.prog.info? 3 = some i0 ∧ i0.zero = some (.int .i64 0) ∧ i0.size = 1 ∧ i0.bytes = 8) := ⟨hi0, hj0, hj1, hj2⟩
 clear hi0 hj0 hj1 hj2
 have l1 : Below w.heap.size w (w.alloc (.cells (gcs vo vs vh vr vq g.next) 27)) := Below.alloc (Below.refl _ _) (Nat.le_refl _) _
 have hy := fun j => cell_of_row _ _ j _ _ _ (heap_alloc_new w (.cells (gcs vo vs vh vr vq g.next) 27 (0, 0)))
 have y1 : (w.alloc (.cells (gcs vo vs vh vr vq g.next) 27)).cell? ⟨w.heap.size, 1, none⟩ = some vs := hy 1
 have y2 : (w.alloc (.cells (gcs vo vs vh vr vq g.next) 27)).cell? ⟨w.heap.size, 2, none⟩ = some vh := hy 2
 have y4 : (w.alloc (.cells (gcs vo vs vh vr vq g.next) 27)).cell? ⟨w.heap.size, 4, none⟩ = some vq := hy 4
 have hg1 := hg.below (l1.mono hn)
 have h3 := frd_two hg1.hs hg1.qu (Nat.le_trans hn l1.size)
 have Hg : Hid (Grd n0 w vo vs vh vr vq os ts g) := hg
 have Hs : Hid (Sln ts) := hs
 have hx := hg.sl
 obtain ⟨b, bcap, rfl, -⟩ := hx
 have hx := hg.hs
 obtain ⟨ah, hcap, rfl, -⟩ := hx
 have hx := hg.qu
 obtain ⟨aq, qcap, rfl, -⟩ := hx
 have htl := hs.t
 have Hes : Hid (g.slots = ts.map (fun t => t.2.map (·.2))) := hg.es
 have Hel : Hid ((g.hs ++ g.qu).length + (slotsF g.slots).length ≤ 1000000000) := hlen
 clear hg hy hs hg1 hlen
 generalize hw1 : w.alloc (.cells (gcs vo (.slice b ts.length bcap) (.slice ah g.hs.length hcap) vr (.slice aq g.qu.length qcap) g.next) 27) = w1 at *
 have e1 : w1.heap.size = w.heap.size + 1 := by rw [← hw1]; simp
 have Ht : Hid (fsum ([(Value.slice ah g.hs.length hcap, g.hs), (Value.slice aq g.qu.length qcap, g.qu)].map (·.2)) ≤ 1000000000000) := by
  have := Hel.out
  simp only [List.length_append] at this
  simp [fsum]
  show _ ≤ _
  omega
 have hcc := slConcat_any (w1.heap.size + 1) _ _ _ h3 (by simp) (by simp) Ht.out
 have l2 : Below w1.heap.size w1 (w1.alloc (.cells #[.slice ah g.hs.length hcap, .slice aq g.qu.length qcap] 24)) := Below.alloc (Below.refl _ _) (Nat.le_refl _) _
 clear h3 Ht
 go_enter Tryz.func46, Tryz.ntmps46
 rw [e1] at hcc
 go_wp2_with fail
 refine hcc.mono ?_
 rintro e w2 ⟨v2, rfl, b2, o2⟩
 obtain ⟨a2, c2, hv2⟩ := own_slI o2
 subst hv2
 have B2 : Below w1.heap.size w1 w2 := l2.trans (b2.mono l2.size)
 have Hb2 : Hid (Below w1.heap.size w1 w2) := B2
 have ef : flat [(Value.slice ah g.hs.length hcap, g.hs), (Value.slice aq g.qu.length qcap, g.qu)] = g.hs ++ g.qu := by simp [flat]
 rw [ef] at o2
 rw [ef]
 have Ho2 : Hid (w2.ownsRow w1.heap.size 3 1 (.slice a2 (g.hs ++ g.qu).length c2) (g.hs ++ g.qu).length (Kg.ints (g.hs ++ g.qu))) := Kg.row_base o2 (by simp)
 have z1 : w2.cell? ⟨w.heap.size, 1, none⟩ = some (.slice b ts.length bcap) := (B2.cell (p := ⟨w.heap.size, 1, none⟩) (by rw [e1]; exact Nat.lt_succ_self _)).trans y1
 clear hcc b2 o2 y1 y2 y4 ef B2
 generalize hE0 : g.hs ++ g.qu = E0 at *
 have HE0 : Hid (g.hs ++ g.qu = E0) := hE0
 clear hE0
 go_wp2
 go_loopw [3, 15] (fun v3 v17 wr => ∃ k : Nat, k ≤ ts.length ∧ v17 = .int .i64 k ∧ Hid (wr.ownsRow w1.heap.size 3 1 v3 (en E0 (g.slots.take k)).length (Kg.ints (en E0 (g.slots.take k)))) ∧ Hid (Below w1.heap.size w1 wr)) (fun _ v17 _ => ts.length - (intOf v17).toNat)
 case atStart => exact ⟨0, Nat.zero_le _, rfl, by have h9 : en E0 (g.slots.take 0) = E0 := (by simp [en, slotsF]); show w2.ownsRow _ _ _ _ _ _; rw [h9]; exact Ho2.out, Hb2⟩
 case round =>
  obtain ⟨k, hk, rfl, Hr, Hb⟩ := hrel
  obtain ⟨a3, c3, hv3⟩ := own_slI Hr.out
  subst hv3
  have BW : Hid (Below w.heap.size w wr) := l1.trans (Hb.out.mono l1.size)
  by_cases hkl : k < ts.length
  ·have hki : (k : Int) < (ts.length : Int) := by omega
   have hz : ts[k]? = some (ts[k]'hkl) := List.getElem?_eq_getElem hkl
   generalize ts[k]'hkl = x at hz
   obtain ⟨a', cap', ea, hob⟩ := (Hg.out.below (BW.out.mono hn)).sl
   cases ea
   obtain ⟨hp, q, off, rfl, hq, hc⟩ := hob k x hz
   have Hz : Hid (g.slots[k]? = some (x.2.map (·.2))) := by show _ = _; rw [Hes.out, List.getElem?_map, hz]; rfl
   have He : Hid (en E0 (g.slots.take (k + 1)) = (en E0 (g.slots.take k)) ++ flat x.2) := by show _ = _; rw [en, slotsF_snoc Hz.out, en, List.append_assoc]; rfl
   have Hle : Hid ((en E0 (g.slots.take k)).length + (flat x.2).length ≤ 1000000000000) := by
    have h1 := slotsF_take g.slots (k + 1)
    have h2 := congrArg List.length He.out
    have h4 := Hel.out
    simp only [en, List.length_append] at h2 h4 ⊢
    show _ ≤ _
    omega
   have hxs := Hs.out.f x (List.mem_of_getElem? hz)
   have hcc := slConcat_any n0 x.1 x.2 wr hp (Nat.le_trans hn BW.out.size) hxs.1 (by rw [← flat_len]; have := Hle.out; omega)
   obtain ⟨ap, cp, ep, -⟩ := hp
   rw [ep] at hc hcc
   clear hob hz ep hxs
   go_wp2_with fail
   refine hcc.mono ?_
   rintro e w5 ⟨v5, rfl, b5, o5⟩
   clear hcc
   obtain ⟨a5, c5, hv5⟩ := own_slI o5
   subst hv5
   have HN : Hid (∀ (j : Nat) u, (Kg.ints (flat x.2))[j]? = some u → ∃ ad, a5 = some ad ∧ w5.cell? (ad.add j) = some u) := lrd_news (Lrd.of_row (Kg.row_base o5 (Nat.zero_le _)))
   have Hr5 : Hid (w5.ownsRow w1.heap.size 3 1 (.slice a3 (en E0 (g.slots.take k)).length c3) (en E0 (g.slots.take k)).length (Kg.ints (en E0 (g.slots.take k)))) := Kg.row_keep2 Hr.out (Kg.Touch.of_below b5 []) (fun _ _ => by simp)
   have Hb5 : Hid (Below w1.heap.size w1 w5) := Hb.out.trans (b5.mono Hb.out.size)
   clear b5 o5 Hr
   go_wp2_with (at_builtin; refine Kg.wpList_append_row rfl _ _ 24 rfl w1.heap.size 3 i0 (.int .i64 0) 8 Tryz.underlying24 HI.out.1 HI.out.2.1 HI.out.2.2.1 HI.out.2.2.2 rfl _ _ _ rfl Hr5.out a5 (flat x.2).length c5 (Kg.ints (flat x.2)) (by simp [Kg.ints]) rfl HN.out (by simp [Kg.ints, Value.oneCell']) (by have := Hle.out; simp only [maxLen]; omega) (by have := Hle.out; omega) Hb5.out.size ?_; intro v' w8 hown' hgrow _ hat _)
   go_roundw
   case rel =>
    refine ⟨k + 1, by omega, by go_num, ?_, ?_⟩
    ·show w8.ownsRow _ _ _ _ _ _
     rw [He.out]
     simp only [Kg.ints, List.map_append, List.length_append] at hown' ⊢
     exact hown'
    ·have t8 : Kg.Touch (Value.slice a3 (en E0 (g.slots.take k)).length c3).ownBlock.toList w5 w8 := Kg.Touch.grown hgrow (fun y hy => by rw [Option.mem_toList]; exact hy)
     exact Hb5.out.trans (t8.below Hb5.out.size (fun y hy => by rw [Option.mem_toList] at hy; exact (Hr5.out.lt y hy).1))
   case measure => simp [intOf]; omega
  ·have hki : ¬ (k : Int) < (ts.length : Int) := by omega
   have e9 : g.slots.take k = g.slots := List.take_of_length_le (by rw [Hes.out, List.length_map]; omega)
   rw [e9] at Hr ⊢
   have HEn : Hid (en E0 g.slots = g.hs ++ g.qu ++ slotsF g.slots) := by show _ = _; rw [en, HE0.out]
   have HEl : Hid ((en E0 g.slots).length ≤ 1000000000000) := by
    have := Hel.out
    show _ ≤ _
    rw [en, List.length_append]
    omega
   have q := delF_any w1.heap.size (.slice a3 (en E0 g.slots).length c3) (en E0 g.slots) wr Hr.out HEl.out
   have HR0 : Hid (rw17 g 0 = (en E0 g.slots).filter (fun z => !decide (z < 1))) := by show _ = _; rw [HEn.out]; rfl
   generalize en E0 g.slots = E at *
   clear e9
   go_wp2_with fail
   refine q.mono ?_
   rintro e w9 ⟨v9, rfl, o9, b9⟩
   rw [← HR0.out] at o9
   have H9 : Hid (Il w9 w1.heap.size v9 (rw17 g 0)) := o9
   have HB9 : Hid (Below w.heap.size w w9) := l1.trans ((Hb.out.trans b9).mono l1.size)
   clear q o9 b9
   go_wp2
   go_ret
   exact ⟨_, rfl, Kg.row_base H9.out l1.size, HB9.out⟩
end Go.Proofs.YtckgcpoheodbcaaGreatDoor
